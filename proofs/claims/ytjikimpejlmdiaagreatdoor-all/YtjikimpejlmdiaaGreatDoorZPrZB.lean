import Derived.Test.YtjikimpejlmdiaaGreatDoorZHi
import Derived.BigQuiet
import Derived.Deep.RegionHeld3
import Derived.BigRegion
set_option maxHeartbeats 4000000
set_option linter.unusedVariables false
set_option linter.unusedSimpArgs false
set_option maxRecDepth 10000
namespace Go.Proofs.YtjikimpejlmdiaaGreatDoor
theorem XN0{p:Prop}(h:p:=by
 refine hK.out _ _ (HS4.out _ t9) (fun hHeld9=> ?_)
 clear hK K
 try go_frame
 refine wpAnyH_done kR ?_ _
 go_wp2_with fail
 go_meet
 exact⟨rfl,R9.out,t9⟩):p:=h
theorem XN1{p:Prop}(h:p:=by
 simp at hi
 rcases hi with q|q|q|q|q
 ·omega
 ·omega
 ·omega
 ·omega
 ·exact(ref.own_lt h.evs i q).2):p:=h
theorem XN2{p:Prop}(h:p:=by exact there_t (n:=2) (S:=[]) (there_new Y4 #[Value.int .u32 0,Value.slice none 0 0] 128) (Nat.succ_pos 1) tca sP):p:=h
theorem XN3{p:Prop}(h:p:=by rw[<-HKE.out];rfl):p:=h
theorem XN4{p:Prop}(h:p:=by simp;omega):p:=h
namespace prog
open ChangeShapes WideShapes ChangeAt RowKit nums dnums mach
attribute [local go_sem ↓] Go.wp_at_zero Go.wp_at_succ
theorem build_any{B b mb:Nat}{m:M}{nx:Int}{vX:Nat->Value}{w:World}(h:PAt B b mb m nx vX w)(hz:0<m.size)(hf:Fine m)(h64:m.size%64=0)(k:Nat)(hk:m.pc=k)(ha:k%4=0)(hk4:k+4<=m.size)(hT:∀w' x,ref.Touch [] w w'->decodes.Tabs w' x):Calls Tryz.prog 107 #[.pointer (some ⟨b,0,none⟩)] w (BuildQ k m.mem w):=by
 by_cases hr:64-(k:Int)%64<32
 ·exact build_r h hz hf h64 k hk ha hk4 hT (64-k%64) oM
 ·exact build_r h hz hf h64 k hk ha hk4 hT 32 oM
theorem SlotV.late {B:Nat}{X:List Nat}{mem:Nat->Int}{p:Int × Int}{v:Value}{w w':World}{x:Nat}{kd:IntKind}{v0:Int}(h:SlotV B X mem p v w)(t:ref.Touch [x] w w')(hx:w.cell? ⟨x,0,none⟩=some (.int kd v0)):SlotV B X mem p v w':=by
 rcases h with h|⟨k,n,c,h1,h2,h3,h4,h5,h7,h8,h9,h10⟩
 ·exact Or.inl h
 ·refine Or.inr ⟨k,n,c,h1,h2,h3,h4,h5,h7,h8,h9,h10.touch h2 t (fun hk=> ?_)⟩
  simp at hk
  subst hk
  have:=h10.2 0 h2 0 dC
  simp[hx,stepC]at this
theorem PW.late {B E b mb sb:Nat}{m:M}{nx:Int}{vE vA:Value}{w w':World}{x:Nat}{kd:IntKind}{v0:Int}(h:PW B E b mb sb m nx vE vA w)(hz:0<m.size)(t:ref.Touch [x] w w')(hx:w.cell? ⟨x,0,none⟩=some (.int kd v0))(hB:B<=x)(n1:b≠x)(n2:mb≠x)(n3:sb≠x)(n4:x∉ref.sblk vE):PW B E b mb sb m nx vE vA w':=by
 have hbel:Below B w w':=t.below h.bs (by intro i hi;simp at hi;subst hi;exact hB)
 refine⟨h.p.other t (by simpa using n1) (by simpa using n2) hz,h.be,Nat.le_trans h.eh t.size,ref.own_touch h.evs t (fun k hk=>by simp;intro e;exact n4 (e ▸ hk)),h.ans.below hbel,h.dE,⟨h.c.le,h.c.sx,fun hn=> ?_,fun hn=>⟨(h.c.mp hn).1.keep (t.block _ (h.c.mp hn).1.lt (fun hk=>by simp at hk;have:=(h.c.mp hn).1.no 0;rw[hk,hx]at this;cases this)),(h.c.mp hn).2⟩⟩,h.hsb,Nat.lt_of_lt_of_le h.ls t.size⟩
 obtain⟨g,hr,hg⟩:=h.c.row hn
 exact⟨g,hr.other oM t (by simpa using n3),fun i hi=>⟨(hg i hi).1,(hg i hi).2.late t hx⟩⟩
def BlkAt (B:Nat) (X:List Nat) (mem:Nat->Int) (k kb n c:Nat) (w:World):Prop:=(n:Int)=blockLen mem 8 k/\0<n/\n<=8/\n<=c/\B<=kb/\kb∉X/\StepsIn kb n k mem w
theorem find_al{B E b mb sb:Nat}{m:M}{nx:Int}{vE vA:Value}{w:World}(h:PW B E b mb sb m nx vE vA w)(hg:MGood m)(hn0:0<m.nslots)(k:Nat)(hk:m.pc=k)(ha:¬(k:Int)%4=0):Calls Tryz.prog 83 #[.pointer (some ⟨b,0,none⟩)] w fun e w'=>e=.panicked (trapV 3)/\ref.Touch [] w w':=by
 have HKE:Hid (m.pc=k):=hk
 have hz:0<m.size:=hg.pos
 have hf:=hg.fine
 have hn:m.nslots≠0:=by omega
 have lb:=h.lb
 have ls:=h.ls
 have k1:(k:Int)<=4294967295:=by have:=hf.pc.2;omega
 have k0:(0:Int)<=(k:Int):=by omega
 have HW:Hid (∀w',ref.Touch [] w w'->PW B E b mb sb m nx vE vA w'):=fun w' t=>h.quiet hz t
 have HHt:Hid (∀w',ref.Touch [] (w.alloc (.cells #[Value.int .u32 0,Value.slice none 0 0] 128)) w'->PAt B b mb m nx (PX m sb vE vA) w'):=fun w' t=>(h.quiet hz (((ref.Touch.refl _ _).alloc _).trans t)).p
 have HF:Hid (Fine m):=hf
 have HG:Hid (MGood m):=hg
 have cpc:(w.alloc (.cells #[Value.int .u32 0,Value.slice none 0 0] 128)).cell? ⟨b,33,none⟩=some (.int .u32 (k:Int)):=((HHt.out _ (ref.Touch.refl _ _)).cells 33 dC dC).trans XN3
 clear h hf hg
 go_enter Tryz.func83,Tryz.ntmps83
 go_wp2_with (first|(go_at_call 74;refine(Calls.mono (guard4_al (HHt.out _ tch) (k:Int) 3 4 k0 k1 HF.out.size ha) ?_);rintro e w' ⟨rfl,hw'⟩;subst w'))
 exact⟨rfl,rfl,tca⟩
theorem find_fa{B E b mb sb:Nat}{m:M}{nx:Int}{vE vA:Value}{w:World}(h:PW B E b mb sb m nx vE vA w)(hg:MGood m)(hn0:0<m.nslots)(k:Nat)(hk:m.pc=k)(ha:(k:Int)%4=0)(hl:lies m k 4=false):Calls Tryz.prog 83 #[.pointer (some ⟨b,0,none⟩)] w fun e w'=>e=.panicked (trapV 4)/\ref.Touch [] w w':=by
 have HKE:Hid (m.pc=k):=hk
 have hz:0<m.size:=hg.pos
 have hf:=hg.fine
 have hn:m.nslots≠0:=by omega
 have lb:=h.lb
 have ls:=h.ls
 have k1:(k:Int)<=4294967295:=by have:=hf.pc.2;omega
 have k0:(0:Int)<=(k:Int):=by omega
 have HW:Hid (∀w',ref.Touch [] w w'->PW B E b mb sb m nx vE vA w'):=fun w' t=>h.quiet hz t
 have HHt:Hid (∀w',ref.Touch [] (w.alloc (.cells #[Value.int .u32 0,Value.slice none 0 0] 128)) w'->PAt B b mb m nx (PX m sb vE vA) w'):=fun w' t=>(h.quiet hz (((ref.Touch.refl _ _).alloc _).trans t)).p
 have HF:Hid (Fine m):=hf
 have HG:Hid (MGood m):=hg
 have cpc:(w.alloc (.cells #[Value.int .u32 0,Value.slice none 0 0] 128)).cell? ⟨b,33,none⟩=some (.int .u32 (k:Int)):=((HHt.out _ (ref.Touch.refl _ _)).cells 33 dC dC).trans XN3
 clear h hf hg
 go_enter Tryz.func83,Tryz.ntmps83
 go_wp2_with (first|(go_at_call 74;refine(Calls.mono (guard4_fa (HHt.out _ tch) (k:Int) 3 4 k0 k1 HF.out.size ha hl) ?_);rintro e w' ⟨rfl,hw'⟩;subst w'))
 exact⟨rfl,rfl,tca⟩
theorem find_no{B E b mb sb:Nat}{m:M}{nx:Int}{vE vA:Value}{w:World}(h:PW B E b mb sb m nx vE vA w)(hg:MGood m)(hn0:0<m.nslots)(k:Nat)(hk:m.pc=k)(hs:SInv m)(ha:(k:Int)%4=0)(hl:lies m k 4=true)(hT:∀w' x,ref.Touch [] w w'->decodes.Tabs w' x)(hc:¬((m.slots (k/4%m.nslots)).1=k/\¬(m.slots (k/4%m.nslots)).2=0))(hx:opn (ld m.mem k 4)=-1):
  Calls Tryz.prog 83 #[.pointer (some ⟨b,0,none⟩)] w fun e w'=>e=.panicked (trapV 2)/\ref.Touch [] w w':=by
 have HKE:Hid (m.pc=k):=hk
 have hz:0<m.size:=hg.pos
 have hf:=hg.fine
 have hn:m.nslots≠0:=by omega
 have lb:=h.lb
 have ls:=h.ls
 have k1:(k:Int)<=4294967295:=by have:=hf.pc.2;omega
 have k0:(0:Int)<=(k:Int):=by omega
 have HW:Hid (∀w',ref.Touch [] w w'->PW B E b mb sb m nx vE vA w'):=fun w' t=>h.quiet hz t
 have HHt:Hid (∀w',ref.Touch [] (w.alloc (.cells #[Value.int .u32 0,Value.slice none 0 0] 128)) w'->PAt B b mb m nx (PX m sb vE vA) w'):=fun w' t=>(h.quiet hz (((ref.Touch.refl _ _).alloc _).trans t)).p
 have HF:Hid (Fine m):=hf
 have HG:Hid (MGood m):=hg
 have cpc:(w.alloc (.cells #[Value.int .u32 0,Value.slice none 0 0] 128)).cell? ⟨b,33,none⟩=some (.int .u32 (k:Int)):=((HHt.out _ (ref.Touch.refl _ _)).cells 33 dC dC).trans XN3
 have z5:=hf.size
 have h64:=hs.s64
 have hk4:k+4<=m.size:=by simp[lies]at hl;omega
 have HTB:Hid (∀w' x,ref.Touch [] w w'->decodes.Tabs w' x):=hT
 have HLE:Hid (m.nslots<=64):=h.c.le
 have lm:mb<w.heap.size:=World.block_lt_of_cell? _ _ (h.p.bytes 0 hz)
 have lp:sb+1<w.heap.size:=(h.c.mp hn).1.lt
 have HXL:Hid (∀i,i∈sb::(sb+1)::b::mb::ref.sblk vE->i<w.heap.size):=fun i hi=>by
  exact XN1
 have HBS:Hid (B<=w.heap.size):=h.bs
 have hhas:decide ((m.slots (k/4%m.nslots)).1=(k:Int)/\¬(m.slots (k/4%m.nslots)).2=0)=false:=by simp only[hc,decide_false]
 clear h hf hg hs hT hc hk
 go_enter Tryz.func83,Tryz.ntmps83
 go_wp2_with (first|(go_at_call 74;refine(Calls.mono (guard4_ok (HHt.out _ tch) (k:Int) 3 4 k0 k1 HF.out.size ha hl) ?_);rintro e w' ⟨rfl,hw'⟩;subst w'))
 refine wp_region_held_drew (S:=(fun w'=>w'.cell? ⟨b,33,none⟩=some (.int .u32 (k:Int)))) kR (cpc) (fun hHeld=> ?_)
 refine tkk 0 10 ?_
 refine tkk 1 11 ?_
 refine tkk 2 12 ?_
 refine tkk 3 13 ?_
 refine tkk 4 14 ?_
 refine tkk 5 15 ?_
 refine tkk 6 16 ?_
 try go_frame
 refine rdy 7 (fun K hK=> ?_)
 go_simp
 refine(Calls.mono (has_any (HW.out _ tca).ct hn0 k oM) ?_)
 rintro e w2 ⟨rfl,ht2⟩
 have t2:ref.Touch [] w w2:=ref.Touch.trans tca ht2
 have p2:w2.cell? ⟨b,33,none⟩=some (.int .u32 (k:Int)):=((HW.out _ t2).p.cells 33 dC dC).trans XN3
 have HTH2:Hid (w2.there w.heap.size 0 2):=there_t (there_new w #[Value.int .u32 0,Value.slice none 0 0] 128) (Nat.succ_pos 1) (ref.Touch.trans (S:=[]) tca ht2) sP
 have HC2:Hid (w2.cell? ⟨w.heap.size,0,none⟩=some (.int .u32 0)):=(ref.Touch.cell (S:=[]) (ref.Touch.trans (S:=[]) (u:=(w.alloc (.cells #[Value.int .u32 0,Value.slice none 0 0] 128))) tca ht2) (p:=⟨w.heap.size,0,none⟩) sP sP).trans (World.cell?_alloc_at _ _ _ _ rfl)
 rw[hhas]
 clear ht2
 refine hK.out _ _ (p2) (fun hHeld=> ?_)
 clear hK K
 try go_frame
 refine tkk 8 18 ?_
 try go_frame
 refine wpAnyH_done kR ?_ _
 go_wp2_with fail
 refine wp_region_held_drew (S:=(fun _=>True)) kR (trivial) (fun hHeld=> ?_)
 refine tkk 0 19 ?_
 refine tkk 1 20 ?_
 refine tkk 2 21 ?_
 refine tkk 3 22 ?_
 try go_frame
 refine rdy 4 (fun K hK=> ?_)
 go_simp
 refine(Calls.mono (build_any (HW.out _ (t2.trans (ref.Touch.refl _ _).drew)).p hz HF.out h64 k HKE.out oM hk4 (fun w' x t=>HTB.out w' x (t2.drew.trans t))) ?_)
 rintro e w3 hq
 rcases hq with⟨_,rfl,ht3⟩|⟨kb,n,c,_,⟨hq2,hq3,_⟩,_⟩
 rotate_left
 ·rw[show blockLen m.mem 8 k=0 from by simp only[blockLen,Int.toNat_natCast];rw[if_pos hx]]at hq2
  omega
 exact⟨rfl,rfl,t2.drew.trans ht3⟩
structure FAt (B E b mb sb:Nat) (m m4:M) (nx:Int) (vE vA:Value) (k kb n c:Nat) (w Y:World):Prop where
 pw:PW B E b mb sb m4 nx vE vA Y
 t:ref.Touch [b,sb,sb+1] w Y
 g0:Y.cell? ⟨w.heap.size,0,none⟩=some (.int .u32 0)
 th:Y.there w.heap.size 0 2
 cp:Y.cell? ⟨sb,(k/4%m.nslots)*2,none⟩=some (.int .u32 (k:Int))
 cv:Y.cell? ⟨sb,(k/4%m.nslots)*2+1,none⟩=some (.slice (some ⟨kb,0,none⟩) n c)
 bk:BlkAt B (sb::(sb+1)::b::mb::ref.sblk vE) m.mem k kb n c Y
 bg:BG m4.blocks 50001
 has:hasB m4.blocks k=true
 e1:m4.pc=k
 e2:m4.nslots=m.nslots
 e3:m4.size=m.size
 eq:∀Y',PW B E b mb sb {m4 with blocks:=mach.count m4.blocks k n 0 1 } nx vE vA Y'->PW B E b mb sb (mach.find m) nx vE vA Y'
theorem FAt.of {B E b mb sb:Nat}{m m4:M}{nx:Int}{vE vA:Value}{k:Nat}{w Y:World}(hn:m.nslots≠0)(e2:m4.nslots=m.nslots)(pw:PW B E b mb sb m4 nx vE vA Y)(t:ref.Touch [b,sb,sb+1] w Y)(g0:Y.cell? ⟨w.heap.size,0,none⟩=some (.int .u32 0))(th:Y.there w.heap.size 0 2)(bg:BG m4.blocks 50001)(has:hasB m4.blocks k=true)(e1:m4.pc=k)(e3:m4.size=m.size)(e4:m4.mem=m.mem)
  (hs:m4.slots (k/4%m.nslots)=((k:Int),blockLen m.mem 8 k)) (hb:¬blockLen m.mem 8 k=0) (eq:∀Y',PW B E b mb sb {m4 with blocks:=mach.count m4.blocks k (blockLen m.mem 8 k) 0 1 } nx vE vA Y'->PW B E b mb sb (mach.find m) nx vE vA Y'):∃kb n c,FAt B E b mb sb m m4 nx vE vA k kb n c w Y:=by
 have hi:(k/4%m.nslots)<m.nslots:=Nat.mod_lt _ oM
 obtain⟨g,hr,hgg⟩:=pw.c.row (by rw[e2];exact hn)
 obtain⟨g1,g2⟩:=hgg (k/4%m.nslots) (by rw[e2];exact hi)
 rw[hs]at g1 g2
 rcases g2 with⟨x1,_⟩|⟨kb,n,c,x1,x2,x3,x4,x5,x7,x8,x9,x10⟩
 ·exact absurd (congrArg Prod.snd x1) hb
 have cp:=hr.pcs (k/4%m.nslots) (by rw[e2];exact hi)
 have cv:=hr.vs (k/4%m.nslots) (by rw[e2];exact hi)
 rw[g1]at cp
 rw[x4]at cv
 have x1':blockLen m.mem 8 k=(n:Int):=x1
 rw[e4]at x10
 rw[x1']at eq
 exact⟨kb,n,c,pw,t,g0,th,cp,cv,⟨x1'.symm,x2,x3,x5,x7,x8,x10⟩,bg,has,e1,e2,e3,eq⟩
theorem find_any{B E b mb sb:Nat}{m:M}{nx:Int}{vE vA:Value}{w:World}(h:PW B E b mb sb m nx vE vA w)(hg:MGood m)(hn0:0<m.nslots)(k:Nat)(hk:m.pc=k)(hs:SInv m)(hcn:Cnt m)(hbg:BG m.blocks 50000)(ha:(k:Int)%4=0)(hl:lies m k 4=true)(hT:∀w' x,ref.Touch [] w w'->decodes.Tabs w' x)(hx:¬opn (ld m.mem k 4)=-1)(u0:0<=m.used)(u1:m.used<=256)(ar1:m.arena<=256):
  Calls Tryz.prog 83 #[.pointer (some ⟨b,0,none⟩)] w fun e w'=>∃kb n c:Nat,e=.returned (.agg #[.int .u32 (k:Int),.slice (some ⟨kb,0,none⟩) n c])/\PW B E b mb sb (mach.find m) nx vE vA w'/\BlkAt B (sb::(sb+1)::b::mb::ref.sblk vE) m.mem k kb n c w'/\ref.Touch [b,sb,sb+1] w w':=by
 have HKE:Hid (m.pc=k):=hk
 have hz:0<m.size:=hg.pos
 have hf:=hg.fine
 have hn:m.nslots≠0:=by omega
 have lb:=h.lb
 have ls:=h.ls
 have k1:(k:Int)<=4294967295:=by have:=hf.pc.2;omega
 have k0:(0:Int)<=(k:Int):=by omega
 have HW:Hid (∀w',ref.Touch [] w w'->PW B E b mb sb m nx vE vA w'):=fun w' t=>h.quiet hz t
 have HHt:Hid (∀w',ref.Touch [] (w.alloc (.cells #[Value.int .u32 0,Value.slice none 0 0] 128)) w'->PAt B b mb m nx (PX m sb vE vA) w'):=fun w' t=>(h.quiet hz (((ref.Touch.refl _ _).alloc _).trans t)).p
 have HF:Hid (Fine m):=hf
 have HG:Hid (MGood m):=hg
 have cpc:(w.alloc (.cells #[Value.int .u32 0,Value.slice none 0 0] 128)).cell? ⟨b,33,none⟩=some (.int .u32 (k:Int)):=((HHt.out _ (ref.Touch.refl _ _)).cells 33 dC dC).trans XN3
 have z5:=hf.size
 have h64:=hs.s64
 have hk4:k+4<=m.size:=by simp[lies]at hl;omega
 have HTB:Hid (∀w' x,ref.Touch [] w w'->decodes.Tabs w' x):=hT
 have HLE:Hid (m.nslots<=64):=h.c.le
 have lm:mb<w.heap.size:=World.block_lt_of_cell? _ _ (h.p.bytes 0 hz)
 have lp:sb+1<w.heap.size:=(h.c.mp hn).1.lt
 have HXL:Hid (∀i,i∈sb::(sb+1)::b::mb::ref.sblk vE->i<w.heap.size):=fun i hi=>by
  exact XN1
 have HBS:Hid (B<=w.heap.size):=h.bs
 have eK:(m.pc/4).toNat%m.nslots=(k/4%m.nslots):=by rw[hk];congr 1
 have hb0:¬blockLen m.mem 8 k=0:=by have:=blockLen_pos m.mem k (by simpa using hx);omega
 have HB0:Hid (¬blockLen m.mem 8 k=0):=hb0
 obtain⟨bb,hhas⟩:∃bb,decide ((m.slots (k/4%m.nslots)).1=(k:Int)/\¬(m.slots (k/4%m.nslots)).2=0)=bb:=⟨_,rfl⟩
 have HBG:Hid (BG m.blocks 50000):=hbg
 have HOLD:Hid (bb=true->∀Y,ref.Touch [] w Y->Y.cell? ⟨w.heap.size,0,none⟩=some (.int .u32 0)->Y.there w.heap.size 0 2->∃m4 kb n c,FAt B E b mb sb m m4 nx vE vA k kb n c w Y):=fun hb Y t g0 th=>by
  rw[hb,decide_eq_true_eq]at hhas
  have q:m.slots (k/4%m.nslots)=((k:Int),blockLen m.mem 8 k):=by
   rcases hs.slot (k/4%m.nslots) (Nat.mod_lt _ hn0)with q|q
   ·rw[q]at hhas;exact absurd rfl hhas.2
   ·have:=q.len;rw[hhas.1]at this;exact Prod.ext hhas.1 this
  have ef:=find_enter m (by rw[eK,hk];intro q;rcases q with q|q;exact hhas.2 q;exact q hhas.1)
  rw[eK,q]at ef
  obtain⟨kb,n,c,hF⟩:=FAt.of (m4:=m) hn rfl (HW.out Y t) (t.mono sP) g0 th (hbg.mono dC) (by have:=hcn.kept (k/4%m.nslots) (by rw[q];exact hb0);rw[q]at this;exact this) hk rfl rfl q hb0 (fun Y' hp=>by rw[ef];exact hp.congr rfl rfl rfl rfl rfl rfl rfl rfl rfl rfl rfl rfl rfl rfl)
  exact⟨m,kb,n,c,hF⟩
 have HNEW:Hid (bb=false->∀(n0:Nat) (Y:World),(n0:Int)=blockLen m.mem 8 k->PW B E b mb sb (keepM m k n0) nx vE vA Y->ref.Touch [b,sb,sb+1] w Y->Y.cell? ⟨w.heap.size,0,none⟩=some (.int .u32 0)->Y.there w.heap.size 0 2->∃m4 kb n c,FAt B E b mb sb m m4 nx vE vA k kb n c w Y):=fun hb n0 Y en hp t g0 th=>by
  rw[hb,decide_eq_false_iff_not]at hhas
  have ef:=find_build m (by rw[eK,hk];exact Classical.byContradiction fun q=>hhas ⟨Classical.byContradiction fun r=>q (Or.inr r),fun r=>q (Or.inl r)⟩)
  have e0:keepM m k n0=built m:=by unfold keepM built;rw[eK,hk,en]
  rw[e0]at hp
  obtain⟨kb,n,c,hF⟩:=FAt.of (m4:=built m) (k:=k) hn rfl hp t g0 th (by show BG (mach.count m.blocks _ _ 1 0) _;exact hbg.count _ _ 1 0 oM oM oM oM) (by show hasB (mach.count m.blocks m.pc _ 1 0) _=true;rw[hasB_count,hk];simp) hk rfl rfl (by show(if(k/4%m.nslots)=(m.pc/4).toNat%m.nslots then _ else _)=_;rw[eK,if_pos rfl,hk]) hb0 (fun Y' hp=>by rw[ef,hk];exact hp.congr rfl rfl rfl rfl rfl rfl rfl rfl rfl rfl rfl rfl rfl rfl)
  exact⟨built m,kb,n,c,hF⟩
 clear h hf hg hs hT hk eK hcn hbg hb0
 go_enter Tryz.func83,Tryz.ntmps83
 go_wp2_with (first|(go_at_call 74;refine(Calls.mono (guard4_ok (HHt.out _ tch) (k:Int) 3 4 k0 k1 HF.out.size ha hl) ?_);rintro e w' ⟨rfl,hw'⟩;subst w'))
 refine wp_region_held_drew (S:=(fun w'=>w'.cell? ⟨b,33,none⟩=some (.int .u32 (k:Int)))) kR (cpc) (fun hHeld=> ?_)
 refine tkk 0 10 ?_
 refine tkk 1 11 ?_
 refine tkk 2 12 ?_
 refine tkk 3 13 ?_
 refine tkk 4 14 ?_
 refine tkk 5 15 ?_
 refine tkk 6 16 ?_
 try go_frame
 refine rdy 7 (fun K hK=> ?_)
 go_simp
 refine(Calls.mono (has_any (HW.out _ tca).ct hn0 k oM) ?_)
 rintro e w2 ⟨rfl,ht2⟩
 have t2:ref.Touch [] w w2:=ref.Touch.trans tca ht2
 have p2:w2.cell? ⟨b,33,none⟩=some (.int .u32 (k:Int)):=((HW.out _ t2).p.cells 33 dC dC).trans XN3
 have HTH2:Hid (w2.there w.heap.size 0 2):=there_t (there_new w #[Value.int .u32 0,Value.slice none 0 0] 128) (Nat.succ_pos 1) (ref.Touch.trans (S:=[]) tca ht2) sP
 have HC2:Hid (w2.cell? ⟨w.heap.size,0,none⟩=some (.int .u32 0)):=(ref.Touch.cell (S:=[]) (ref.Touch.trans (S:=[]) (u:=(w.alloc (.cells #[Value.int .u32 0,Value.slice none 0 0] 128))) tca ht2) (p:=⟨w.heap.size,0,none⟩) sP sP).trans (World.cell?_alloc_at _ _ _ _ rfl)
 rw[hhas]
 clear ht2
 refine hK.out _ _ (p2) (fun hHeld=> ?_)
 clear hK K
 try go_frame
 refine tkk 8 18 ?_
 try go_frame
 refine wpAnyH_done kR ?_ _
 go_upto_if 18 with fail
 go_cut []from 19 (fun wx=>∃m4 kb n c,FAt B E b mb sb m m4 nx vE vA k kb n c w wx)
 case first=>
  cases bb with
  |true=>
   go_wp2_with fail
   go_meet
   exact HOLD.out (by first|rfl|trivial) w2 t2 HC2.out HTH2.out
  |false=>
   go_wp2_with fail
   refine wp_region_held_drew (S:=(fun _=>True)) kR (trivial) (fun hHeld=> ?_)
   refine tkk 0 19 ?_
   refine tkk 1 20 ?_
   refine tkk 2 21 ?_
   refine tkk 3 22 ?_
   try go_frame
   refine rdy 4 (fun K hK=> ?_)
   go_simp
   refine(Calls.mono (build_any (HW.out _ (t2.trans (ref.Touch.refl _ _).drew)).p hz HF.out h64 k HKE.out oM hk4 (fun w' x t=>HTB.out w' x (t2.drew.trans t))) ?_)
   rintro e w3 hq
   rcases hq with⟨h0,_⟩|⟨kb0,n0,c0,rfl,⟨hq1,hq2,hq3,hq4,hq5⟩,hst,ht3⟩
   ·have:=blockLen_pos m.mem k (by simpa using hx)
    omega
   have t3:ref.Touch [] w w3:=t2.drew.trans ht3
   have l2:w.heap.size<=w2.heap.size:=t2.size
   have hq5':w2.heap.size<=kb0:=hq5
   have T23:Hid (ref.Touch [] w2 w3):=ref.Touch.trans (ref.Touch.refl _ _).drew ht3
   have hv3:SlotV B (sb::(sb+1)::b::mb::ref.sblk vE) m.mem ((k:Int),(n0:Int)) (.slice (some ⟨kb0,0,none⟩) n0 c0) w3:=Or.inr ⟨kb0,n0,c0,rfl,hq2,hq3,rfl,hq4,by have:=HBS.out;omega,fun hc=>by have:=HXL.out kb0 hc;omega,⟨k0,by omega,by omega,by have:=blockLen_in m.mem 8 k oM (n0-1) oM;rw[show((n0-1:Nat):Int)=(n0:Int)-1 by omega]at this;exact this⟩,hst⟩
   have HV3:Hid _:=hv3
   clear ht3 hst hv3 hq5
   refine hK.out _ _ (trivial) (fun hHeld=> ?_)
   clear hK K
   try go_frame
   refine rdy 5 (fun K hK=> ?_)
   go_simp
   refine(Calls.mono (keep_any (HW.out _ t3) hz hn0 k n0 kb0 c0 oM hq3 u0 u1 ar1 HBG.out HV3.out) ?_)
   rintro e w4 ⟨rfl,hp4,ht4⟩
   have P4:Hid (PW B E b mb sb (keepM m k n0) nx vE vA w4):=hp4
   have T4:Hid (ref.Touch [b,sb,sb+1] w3 w4):=ht4
   clear hp4 ht4
   refine hK.out _ _ (trivial) (fun hHeld=> ?_)
   clear hK K
   try go_frame
   refine wpAnyH_done kR ?_ _
   go_wp2_with fail
   go_meet
   have lw3:w.heap.size<w3.heap.size:=Nat.lt_of_lt_of_le (World.block_lt_of_cell? _ _ HC2.out) T23.out.size
   exact HNEW.out (by first|rfl|trivial) n0 w4 hq1 P4.out ((t3.mono sP).trans T4.out) ((T4.out.cell (p:=⟨w.heap.size,0,none⟩) lw3 XN4).trans ((T23.out.cell (p:=⟨w.heap.size,0,none⟩) (World.block_lt_of_cell? _ _ HC2.out) sP).trans HC2.out)) (there_t (n:=2) (there_t (n:=2) HTH2.out (Nat.succ_pos 1) (T23.out) sP) (Nat.succ_pos 1) T4.out XN4)
 case rest=>
 obtain⟨m4,kb,n,c,hF⟩:=hcut
 have HF4:Hid (FAt B E b mb sb m m4 nx vE vA k kb n c w wc):=hF
 obtain⟨Y4,hY4⟩:∃Y4,Y4=wc:=⟨_,rfl⟩
 subst hY4
 have hz4:0<m4.size:=by rw[hF.e3];exact hz
 have hn4:m4.nslots≠0:=by rw[hF.e2];exact hn
 have lg:w.heap.size<Y4.heap.size:=World.block_lt_of_cell? _ _ hF.g0
 have HS4:Hid (∀w',ref.Touch [] Y4 w'->(fun w'=>w'.cell? ⟨b,33,none⟩=some (.int .u32 (k:Int))/\w'.cell? ⟨b,40,none⟩=some (.slice (some ⟨sb,0,none⟩) m.nslots m.nslots)/\w'.cell? ⟨sb,(k/4%m.nslots)*2,none⟩=some (.int .u32 (k:Int))/\w'.cell? ⟨sb,(k/4%m.nslots)*2+1,none⟩=some (.slice (some ⟨kb,0,none⟩) n c)) w'):=fun w' t=>by
  have q:=HF4.out.pw.quiet hz4 t
  have cs:=q.ct.cS
  rw[slotsV,if_neg hn4,HF4.out.e2]at cs
  exact⟨(q.p.cells 33 dC dC).trans (by rw[<-HF4.out.e1];rfl),cs,(t.cell (p:=⟨sb,_,none⟩) HF4.out.pw.ls sP).trans HF4.out.cp,(t.cell (p:=⟨sb,_,none⟩) HF4.out.pw.ls sP).trans HF4.out.cv⟩
 clear hF
 go_upto_region 4 with fail
 go_cut [3]from 25 to 34 (fun s wx=>s=.pointer (some ⟨Y4.heap.size,0,none⟩)/\wx.rangeAt Y4.heap.size 0 (Array.toList #[Value.int .u32 (k:Int),Value.slice (some ⟨kb,0,none⟩) n c])/\ref.Touch [] Y4 wx)
 case first=>
  refine wp_region_held_drew (S:=(fun w'=>w'.cell? ⟨b,33,none⟩=some (.int .u32 (k:Int))/\w'.cell? ⟨b,40,none⟩=some (.slice (some ⟨sb,0,none⟩) m.nslots m.nslots)/\w'.cell? ⟨sb,(k/4%m.nslots)*2,none⟩=some (.int .u32 (k:Int))/\w'.cell? ⟨sb,(k/4%m.nslots)*2+1,none⟩=some (.slice (some ⟨kb,0,none⟩) n c))) kR (HS4.out _ (ref.Touch.refl _ _).drew) (fun hHeld=> ?_)
  refine tkk 0 25 ?_
  refine tkk 1 26 ?_
  refine tkk 2 27 ?_
  refine tkk 3 28 ?_
  refine tkk 4 29 ?_
  refine tkk 5 30 ?_
  refine tkk 6 31 ?_
  try go_frame
  refine wpAnyH_ready (rs:=[7,10]) kR sP ?_
  refine AllReadyH.cons (o:=⟨some 32,_,_,_,_,_⟩) rfl (fun K hK=> ?_) (AllReadyH.cons (o:=⟨some 3,_,_,_,_,_⟩) rfl (fun K hK=> ?_) AllReadyH.nil)
  ·rw[if_pos rF]
   go_simp
   refine(Calls.mono (slot_any b sb m.nslots _ hn0 HLE.out hHeld.2.1 k oM) ?_)
   rintro e w6 ⟨rfl,⟨q6,rfl⟩⟩
   refine hK.out _ _ (HS4.out _ tca) (fun hHeld=> ?_)
   clear hK K
   try go_frame
   refine tkk 8 33 ?_
   refine tkk 9 34 ?_
   try go_frame
   refine rdy 10 (fun K hK=> ?_)
   go_simp
   refine hK.out _ _ (HS4.out _ tca) (fun hHeld=> ?_)
   clear hK K
   try go_frame
   refine rdy 11 (fun K hK=> ?_)
   refine wp_store_mid _ _ _ rfl Y4.heap.size 0 #[Value.int .u32 (k:Int),Value.slice (some ⟨kb,0,none⟩) n c] rfl rfl (by exact there_new _ _ _) info_bl oC ?_
   generalize h9:World.setCells _ Y4.heap.size 0 (Array.toList #[Value.int .u32 (k:Int),Value.slice (some ⟨kb,0,none⟩) n c])=w9
   have t9:ref.Touch [] Y4 w9:=by rw[<-h9];exact touch_newP _ _ _ _ tca (Nat.le_refl _)
   have R9:Hid (w9.rangeAt Y4.heap.size 0 (Array.toList #[Value.int .u32 (k:Int),Value.slice (some ⟨kb,0,none⟩) n c])):=by rw[<-h9];exact World.rangeAt_setCells_same _ _ _ _ (by exact there_new _ _ _)
   clear h9
   exact XN0
  ·rw[if_pos rF]
   go_simp
   refine hK.out _ _ (HS4.out _ tca) (fun hHeld=> ?_)
   clear hK K
   try go_frame
   refine rdy 7 (fun K hK=> ?_)
   go_simp
   refine(Calls.mono (slot_any b sb m.nslots _ hn0 HLE.out hHeld.2.1 k oM) ?_)
   rintro e w6 ⟨rfl,⟨q6,rfl⟩⟩
   refine hK.out _ _ (HS4.out _ tca) (fun hHeld=> ?_)
   clear hK K
   try go_frame
   refine tkk 8 33 ?_
   refine tkk 9 34 ?_
   try go_frame
   refine rdy 11 (fun K hK=> ?_)
   refine wp_store_mid _ _ _ rfl Y4.heap.size 0 #[Value.int .u32 (k:Int),Value.slice (some ⟨kb,0,none⟩) n c] rfl rfl XN2 info_bl oC ?_
   generalize h9:World.setCells _ Y4.heap.size 0 (Array.toList #[Value.int .u32 (k:Int),Value.slice (some ⟨kb,0,none⟩) n c])=w9
   have t9:ref.Touch [] Y4 w9:=by rw[<-h9];exact touch_newP _ _ _ _ tca (Nat.le_refl _)
   have R9:Hid (w9.rangeAt Y4.heap.size 0 (Array.toList #[Value.int .u32 (k:Int),Value.slice (some ⟨kb,0,none⟩) n c])):=by rw[<-h9];exact World.rangeAt_setCells_same _ _ _ _ XN2
   clear h9
   exact XN0
 case rest=>
 obtain⟨rfl,hR5,t5⟩:=hcut
 obtain⟨W,hW⟩:∃W,W=wc:=⟨_,rfl⟩
 subst hW
 have R5:Hid (W.rangeAt Y4.heap.size 0 (Array.toList #[Value.int .u32 (k:Int),Value.slice (some ⟨kb,0,none⟩) n c])):=hR5
 have lgW:Y4.heap.size<W.heap.size:=World.block_lt_of_cell? _ _ (hR5 0 _ rfl)
 have lp4:sb+1<Y4.heap.size:=(HF4.out.pw.c.mp hn4).1.lt
 have hnf:(mach.find m).nslots≠0:=by rw[(mach.find_f m).2.2.2.2.2.2.2.2.2.2.2.1];exact hn
 have h5i:(fun w'=>w'.cell? ⟨b,43,none⟩=some (.map (some (sb+1)))/\w'.cell? ⟨Y4.heap.size,0,none⟩=some (.int .u32 (k:Int))/\w'.cell? ⟨Y4.heap.size,1,none⟩=some (.slice (some ⟨kb,0,none⟩) n c)) W.drew:=⟨((HF4.out.pw.quiet hz4 t5).p.cells 43 dC dC).trans (by simp[layP,vX3,cacheV,mapV,hn4]),hR5 0 _ rfl,hR5 1 _ rfl⟩
 clear hR5
 go_wp2_with fail
 refine wp_region_held_drew (S:=(fun w'=>w'.cell? ⟨b,43,none⟩=some (.map (some (sb+1)))/\w'.cell? ⟨Y4.heap.size,0,none⟩=some (.int .u32 (k:Int))/\w'.cell? ⟨Y4.heap.size,1,none⟩=some (.slice (some ⟨kb,0,none⟩) n c))) kR (h5i) (fun hHeld=> ?_)
 refine tkk 0 35 ?_
 refine tkk 1 36 ?_
 refine tkk 2 37 ?_
 refine tkk 3 38 ?_
 refine tkk 4 39 ?_
 refine tkk 5 40 ?_
 try go_frame
 refine rdy 6 (fun K hK=> ?_)
 go_simp
 refine(Calls.mono (cntE_any (sb+1) m4.blocks _ ((HF4.out.pw.quiet hz4 (t5.drew)).c.mp hn4).1 (LB.of HF4.out.bg dC) k n c (some ⟨kb,0,none⟩) oM HF4.out.has) ?_)
 rintro e w7 ⟨rfl,hpm,ht7⟩
 have t7:ref.Touch [sb+1] W w7:=ref.Touch.trans (ref.Touch.refl _ _).drew ht7
 have P7:Hid (PW B E b mb sb (mach.find m) nx vE vA w7):=HF4.out.eq _ ((HF4.out.pw.quiet hz4 t5).counted hz4 hn4 t7 _ hpm m4.built)
 have h57:(fun w'=>w'.cell? ⟨b,43,none⟩=some (.map (some (sb+1)))/\w'.cell? ⟨Y4.heap.size,0,none⟩=some (.int .u32 (k:Int))/\w'.cell? ⟨Y4.heap.size,1,none⟩=some (.slice (some ⟨kb,0,none⟩) n c)) w7:=⟨(P7.out.p.cells 43 dC dC).trans (by simp[layP,vX3,cacheV,mapV,hnf]),(t7.cell (p:=⟨Y4.heap.size,0,none⟩) lgW XN4).trans (R5.out 0 _ rfl),(t7.cell (p:=⟨Y4.heap.size,1,none⟩) lgW XN4).trans (R5.out 1 _ rfl)⟩
 have T7:Hid (ref.Touch [sb+1] W w7):=t7
 clear ht7 t7 hpm
 refine hK.out _ _ (h57) (fun hHeld=> ?_)
 clear hK K
 try go_frame
 refine wpAnyH_done kR ?_ _
 have R7:Hid (w7.rangeAt Y4.heap.size 0 (Array.toList #[Value.int .u32 (k:Int),Value.slice (some ⟨kb,0,none⟩) n c])):=rangeAt_t R5.out lgW T7.out XN4
 have TH7:Hid (w7.there w.heap.size 0 2):=there_t (n:=2) (there_t (n:=2) HF4.out.th (Nat.succ_pos 1) t5 sP) (Nat.succ_pos 1) T7.out XN4
 have hc7:w7.cell? ⟨w.heap.size,0,none⟩=some (.int .u32 0):=(T7.out.cell (p:=⟨w.heap.size,0,none⟩) (Nat.lt_of_lt_of_le lg t5.size) XN4).trans ((t5.cell (p:=⟨w.heap.size,0,none⟩) lg sP).trans HF4.out.g0)
 have HC7:Hid (w7.cell? ⟨w.heap.size,0,none⟩=some (.int .u32 0)):=hc7
 clear hc7
 go_wp2_with (first|(refine wpList_load_mid rF 128 (.tmp 3) rF Y4.heap.size 0 rF (Array.toList #[Value.int .u32 (k:Int),Value.slice (some ⟨kb,0,none⟩) n c]) _ R7.out Tryz.underlying128 rfl info_bl ?_)|(refine wpList_store_mid rF 128 (.tmp 2) (.tmp 42) rF w.heap.size 0 #[Value.int .u32 (k:Int),Value.slice (some ⟨kb,0,none⟩) n c] rF rF TH7.out info_bl oC ?_;generalize hw9:World.setCells _ w.heap.size 0 (Array.toList #[Value.int .u32 (k:Int),Value.slice (some ⟨kb,0,none⟩) n c])=w9;have R9:Hid (w9.rangeAt w.heap.size 0 (Array.toList #[Value.int .u32 (k:Int),Value.slice (some ⟨kb,0,none⟩) n c])):=(by rw[<-hw9];exact World.rangeAt_setCells_same _ _ _ _ TH7.out);have T9:Hid (ref.Touch [w.heap.size] w7 w9):=(by rw[<-hw9];exact touch_setsP sP _ _ _ _ (ref.Touch.refl _ _));clear hw9))
 refine bodyPost_ret (results_c Tryz.results83 _ _ _ w.heap.size (Array.toList #[Value.int .u32 (k:Int),Value.slice (some ⟨kb,0,none⟩) n c]) rF _ R9.out Tryz.underlying128 rfl info_bl) rfl ?_
 have t7:ref.Touch [b,sb,sb+1] w w7:=(HF4.out.t.trans (t5.mono sP)).trans (T7.out.mono sP)
 obtain⟨q1,q2,q3,q4,q5,q6,q7⟩:=HF4.out.bk
 have q77:=(q7.touch q2 t5 sP).touch q2 T7.out (by simp at q6 ⊢;exact q6.2.1)
 have nkb:kb≠w.heap.size:=fun e=>by
  subst e
  have:=q77.2 0 q2 0 dC
  simp[HC7.out,stepC]at this
 refine⟨kb,n,c,rfl,P7.out.late (by rw[(mach.find_f m).2.2.2.2.2.2.1];exact hz) T9.out HC7.out HBS.out oM oM oM (fun hc=>by have:=HXL.out _ (List.mem_cons_of_mem _ (List.mem_cons_of_mem _ (List.mem_cons_of_mem _ (List.mem_cons_of_mem _ hc))));omega),⟨q1,q2,q3,q4,q5,q6,q77.touch q2 T9.out (by simpa using nkb)⟩,tnewP t7 T9.out sP⟩
end prog
end Go.Proofs.YtjikimpejlmdiaaGreatDoor

import Derived.Test.YtjikimpejlmdiaaGreatDoorZGn
import Derived.BigQuiet
import Derived.Deep.RegionHeld3
import Derived.BigRegion
set_option maxHeartbeats 4000000
set_option linter.unusedVariables false
set_option linter.unusedSimpArgs false
set_option maxRecDepth 10000
namespace Go.Proofs.YtjikimpejlmdiaaGreatDoor
theorem Xm0{p:Prop}(h:p:=by
 have h9s:(fun w'=>w'.cell? ⟨w.heap.size,0,none⟩=some (.int .u32 (a:Int))/\w'.cell? ⟨w.heap.size,1,none⟩=some (.slice (some ⟨kb,0,none⟩) n c)/\w'.cell? ⟨b,40,none⟩=some (.slice (some ⟨sb,0,none⟩) m.nslots m.nslots)) w9:=⟨K9.out.g0,K9.out.g1,(K9.out.pw.p.cells 40 dC dC).trans (by simp[layP,vX3,cacheV,slotsV,hn])⟩
 clear h9 t9
 refine hK.out _ _ h9s (fun hHeld9=> ?_)
 clear hK K
 try go_frame
 refine wpAnyH_done kR ?_ _
 go_wp2_with fail
 go_end0
 exact⟨rfl,K9.out.pw,K9.out.tt,K9.out.sv⟩):p:=h
theorem Xm1{p:Prop}(h:p:=by
 obtain⟨g,hr,_⟩:=hW.pw.c.row hn
 exact fun j hj=>⟨hr.there _ (by have:a/4%m.nslots<m.nslots:=hkn;show _<m.nslots*2;omega),hr.free _⟩):p:=h
theorem Xm2{p:Prop}(h:p:=by rw[<-h9];exact K6.out.pw.slot hz _ hkn ((a:Int),(n:Int)) _ K6.out.sv):p:=h
theorem Xm3{p:Prop}(h:p:=by simp[layP,vX3,cacheV,slotsV,hn]):p:=h
theorem Xm4{p:Prop}(h:p:=by simp[layP,vX3,cacheV,mapV,hn]):p:=h
namespace prog
open ChangeShapes WideShapes ChangeAt RowKit nums dnums mach
attribute [local go_sem ↓] Go.wp_at_zero Go.wp_at_succ
theorem slot_any(b sb n:Nat)(w:World)(hn0:0<n)(hn:n<=64)(cS:w.cell? ⟨b,40,none⟩=some (.slice (some ⟨sb,0,none⟩) n n))(a:Nat)(ha:a<=4294967295):
  Calls Tryz.prog 108 #[.pointer (some ⟨b,40,none⟩),.int .u32 a] w fun e w'=>e=.returned (.pointer (some ⟨sb,a/4%n*2,none⟩))/\∃q,w'=w.drewN q:=by
 have q1:IntKind.u32.wrap (n:Int)=(n:Int):=by rw[IntKind.wrap_u32];omega
 have q3:(a:Int)/4%(n:Int)<n:=Int.emod_lt_of_pos _ oM
 have q5:0<=(a:Int)/4%(n:Int):=Int.emod_nonneg _ oM
 have q4:¬(n:Int)=0:=by omega
 have HE:Hid (((a:Int)/4%(n:Int)).toNat=a/4%n):=(by rw[show(a:Int)/4%(n:Int)=((a/4%n:Nat):Int)by push_cast;rfl];exact Int.toNat_natCast _:((a:Int)/4%(n:Int)).toNat=a/4%n)
 go_enter Tryz.func108,Tryz.ntmps108
 go_wp2_with fail
 go_quiet (fail)
 go_wp2_with fail
 go_ret
 exact⟨by rw[<-HE.out];rfl,_,rfl⟩
theorem has_row(b sb n:Nat)(w:World)(hn0:0<n)(hn:n<=64)(cS:w.cell? ⟨b,40,none⟩=some (.slice (some ⟨sb,0,none⟩) n n))(a:Nat)(ha:a<=4294967295)(p:Int)(o:Option Addr)(l c:Nat)(cp:w.cell? ⟨sb,a/4%n*2,none⟩=some (.int .u32 p))(cv:w.cell? ⟨sb,a/4%n*2+1,none⟩=some (.slice o l c)):
  Calls Tryz.prog 84 #[.pointer (some ⟨b,40,none⟩),.int .u32 a] w fun e w'=>e=.returned (.bool (decide (p=a/\0<l)))/\ref.Touch [] w w':=by
 have ls:sb<w.heap.size:=World.block_lt_of_cell? _ _ cp
 by_cases h1:p=a
 ·by_cases h2:0<l
  ·have e1:decide (p=a/\0<l)=true:=by simp[h1,h2]
   have h3:decide ((0:Int)<(l:Int))=true:=by simp;omega
   rw[e1]
   clear e1
   subst h1
   go_enter Tryz.func84,Tryz.ntmps84
   go_wp2_with (first|(go_at_call 108;refine(Calls.mono (slot_any b sb n w hn0 hn cS a ha) ?_);rintro e w1 ⟨rfl,q1,rfl⟩;have ht1:=(ref.Touch.refl [] w).drewN q1;revert ht1;generalize w.drewN q1=w1;intro ht1;have T1:Hid (ref.Touch [] w w1):=ht1;have c1:w1.cell? ⟨sb,a/4%n*2,none⟩=some (.int .u32 (a:Int)):=(ht1.cell (p:=⟨sb,a/4%n*2,none⟩) ls sP).trans cp;have c2:w1.cell? ⟨sb,a/4%n*2+1,none⟩=some (.slice o l c):=(ht1.cell (p:=⟨sb,a/4%n*2+1,none⟩) ls sP).trans cv;clear ht1))
   go_ret
   exact⟨rfl,T1.out⟩
  ·have e1:decide (p=a/\0<l)=false:=by simp[h2]
   obtain rfl:l=0:=by omega
   rw[e1]
   clear e1 h2
   subst h1
   go_enter Tryz.func84,Tryz.ntmps84
   go_wp2_with (first|(go_at_call 108;refine(Calls.mono (slot_any b sb n w hn0 hn cS a ha) ?_);rintro e w1 ⟨rfl,q1,rfl⟩;have ht1:=(ref.Touch.refl [] w).drewN q1;revert ht1;generalize w.drewN q1=w1;intro ht1;have T1:Hid (ref.Touch [] w w1):=ht1;have c1:w1.cell? ⟨sb,a/4%n*2,none⟩=some (.int .u32 (a:Int)):=(ht1.cell (p:=⟨sb,a/4%n*2,none⟩) ls sP).trans cp;have c2:w1.cell? ⟨sb,a/4%n*2+1,none⟩=some (.slice o 0 c):=(ht1.cell (p:=⟨sb,a/4%n*2+1,none⟩) ls sP).trans cv;clear ht1))
   go_ret
   exact⟨rfl,T1.out⟩
 ·have e1:decide (p=a/\0<l)=false:=by simp[h1]
  have h3:(p==(a:Int))=false:=by simpa using h1
  rw[e1]
  clear e1
  go_enter Tryz.func84,Tryz.ntmps84
  go_wp2_with (first|(go_at_call 108;refine(Calls.mono (slot_any b sb n w hn0 hn cS a ha) ?_);rintro e w1 ⟨rfl,q1,rfl⟩;have ht1:=(ref.Touch.refl [] w).drewN q1;revert ht1;generalize w.drewN q1=w1;intro ht1;have T1:Hid (ref.Touch [] w w1):=ht1;have c1:w1.cell? ⟨sb,a/4%n*2,none⟩=some (.int .u32 p):=(ht1.cell (p:=⟨sb,a/4%n*2,none⟩) ls sP).trans cp;have c2:w1.cell? ⟨sb,a/4%n*2+1,none⟩=some (.slice o l c):=(ht1.cell (p:=⟨sb,a/4%n*2+1,none⟩) ls sP).trans cv;clear ht1))
  go_ret
  exact⟨rfl,T1.out⟩
theorem has_any{B b mb sb:Nat}{X:List Nat}{m:M}{nx:Int}{vX:Nat->Value}{w:World}(h:PCt B b mb sb X m nx vX w)(hn0:0<m.nslots)(a:Nat)(ha:a<=4294967295):
  Calls Tryz.prog 84 #[.pointer (some ⟨b,40,none⟩),.int .u32 a] w fun e w'=>e=.returned (.bool (decide ((m.slots (a/4%m.nslots)).1=a/\¬(m.slots (a/4%m.nslots)).2=0)))/\ref.Touch [] w w':=by
 have hne:m.nslots≠0:=by omega
 have hS:=h.cS
 rw[slotsV,if_neg hne]at hS
 obtain⟨g,hr,hg⟩:=h.c.row hne
 have hi:a/4%m.nslots<m.nslots:=Nat.mod_lt _ hn0
 obtain⟨g1,g2⟩:=hg _ hi
 have cp:=hr.pcs _ hi
 have cv:=hr.vs _ hi
 rw[g1]at cp
 rcases g2 with⟨e1,e2⟩|⟨k,n,c,e1,e2,e3,e4,e5,e7,e8,e9,e10⟩
 ·rw[e2]at cv
  refine(has_row b sb m.nslots w hn0 h.c.le hS a ha _ none 0 0 cp cv).mono ?_
  rintro e w' ⟨rfl,ht⟩
  refine⟨?_,ht⟩
  rw[e1]
  simp
 ·rw[e4]at cv
  refine(has_row b sb m.nslots w hn0 h.c.le hS a ha _ _ n c cp cv).mono ?_
  rintro e w' ⟨rfl,ht⟩
  refine⟨?_,ht⟩
  rw[e1]
  have e0:¬(n:Int)=0:=by omega
  exact congrArg (fun b=>Ending.returned (Value.bool b)) (decide_eq_decide.2 ⟨fun x=>⟨x.1,e0⟩,fun x=>⟨x.1,e2⟩⟩)
theorem PW.tk {B E b mb sb:Nat}{m:M}{nx:Int}{vE vA:Value}{w:World}(h:PW B E b mb sb m nx vE vA w)(hn:m.nslots≠0)(v:Int):PW B E b mb sb {m with used:=v } nx vE vA (w.setCell ⟨b,42,none⟩ (.int .i64 v)):=
 h.step (h.p.upd (m':={m with used:=v }) (nx':=nx) (vX':=PX {m with used:=v } sb vE vA) 42 dC dC _ rfl rfl (fun i hi hM=>Or.elim (Decidable.em (i=42)) (fun e=>by subst e;simp[layP,vX3,cacheV,hn]) (fun e=>by
  have:i<32\/i=33\/i=34\/i=35\/i=36\/i=37\/i=38\/i=39\/i=40\/i=41\/i=43:=by omega
  rw[if_neg e]
  rcases this with k|k|k|k|k|k|k|k|k|k|k<;>simp[layP,vX3,cacheV,k]))) ((ref.Touch.refl _ _).setCell sP _) rfl rfl rfl rfl rfl
theorem PW.counted {B E b mb sb:Nat}{m:M}{nx:Int}{vE vA:Value}{w w':World}(h:PW B E b mb sb m nx vE vA w)(hz:0<m.size)(hn:m.nslots≠0)(t:ref.Touch [sb+1] w w')(l:List Blk)(hl:PMp (sb+1) l w')(u:Int):PW B E b mb sb {m with blocks:=l,built:=u } nx vE vA w':=by
 have s2:=(h.c.mp hn).2
 simp at s2
 have hbel:Below B w w':=t.below h.bs (by intro i hi;simp at hi;subst hi;have:=h.hsb;omega)
 have hp:PAt B b mb {m with blocks:=l,built:=u } nx (PX m sb vE vA) w':=(h.p.other t (by simpa using fun e=>s2.1 e.symm) (by simpa using fun e=>s2.2.1 e.symm) hz).cong rfl rfl rfl rfl rfl rfl
 refine⟨hp,h.be,Nat.le_trans h.eh t.size,ref.own_touch h.evs t (fun k hk=>by simp;intro e;exact s2.2.2 (e ▸ hk)),h.ans.below hbel,h.dE,⟨h.c.le,h.c.sx,fun hn=> ?_,fun _=>⟨hl,(h.c.mp hn).2⟩⟩,h.hsb,Nat.lt_of_lt_of_le h.ls t.size⟩
 obtain⟨g,hr,hg⟩:=h.c.row hn
 exact⟨g,hr.other (by show 0<m.nslots;omega) t sP,fun i hi=>⟨(hg i hi).1,(hg i hi).2.touch t sP⟩⟩
theorem PW.row {B E b mb sb:Nat}{m:M}{nx:Int}{vE vA:Value}{w w':World}(h:PW B E b mb sb m nx vE vA w)(hz:0<m.size)(hn:m.nslots≠0)(t:ref.Touch [sb] w w')(f:Nat->Int × Int)(g:Nat->Int × Value)(hr:RowIn sb m.nslots g w')(hg:∀i,i<m.nslots->(g i).1=(f i).1/\SlotV B (sb::(sb+1)::b::mb::ref.sblk vE) m.mem (f i) (g i).2 w'):PW B E b mb sb {m with slots:=f } nx vE vA w':=by
 obtain⟨s1,s2⟩:=h.c.sx hn
 simp at s2
 have n1:b∉[sb]:=by simpa using fun e=>s2.1 e.symm
 have n2:mb∉[sb]:=by simpa using fun e=>s2.2.1 e.symm
 have hbel:Below B w w':=t.below h.bs (by intro i hi;simp at hi;subst hi;exact h.hsb)
 have hp:PAt B b mb {m with slots:=f } nx (PX m sb vE vA) w':=(h.p.other t n1 n2 hz).cong rfl rfl rfl rfl rfl rfl
 exact⟨hp,h.be,Nat.le_trans h.eh t.size,ref.own_touch h.evs t (fun k hk=>by simpa using(h.dE k hk).2.2),h.ans.below hbel,h.dE,⟨h.c.le,h.c.sx,fun _=>⟨g,hr,hg⟩,fun hn=>⟨(h.c.mp hn).1.keep (t.block _ (h.c.mp hn).1.lt sP),(h.c.mp hn).2⟩⟩,h.hsb,Nat.lt_of_lt_of_le h.ls t.size⟩
theorem PW.zero {B E b mb sb:Nat}{m:M}{nx:Int}{vE vA:Value}{w:World}(h:PW B E b mb sb m nx vE vA w)(hz:0<m.size)(hn:m.nslots≠0):PW B E b mb sb {m with slots:=fun _=>(0,0) } nx vE vA (w.setCells sb 0 (zeroL m.nslots)):=by
 obtain⟨g,hr,hg⟩:=h.c.row hn
 refine h.row hz hn (touch_setsP sP _ _ _ _ (ref.Touch.refl _ _)) _ (fun _=>(0,nilV)) ?_ (fun i hi=>⟨rfl,Or.inl ⟨rfl,rfl⟩⟩)
 have:=hr.zero 0 m.nslots oM
 rw[Nat.zero_mul]at this
 exact this.congr (fun i hi=>by rw[if_pos oM])
theorem PW.slot {B E b mb sb:Nat}{m:M}{nx:Int}{vE vA:Value}{w:World}(h:PW B E b mb sb m nx vE vA w)(hz:0<m.size)(k:Nat)(hk:k<m.nslots)(p:Int × Int)(v:Value)(hv:SlotV B (sb::(sb+1)::b::mb::ref.sblk vE) m.mem p v w):
  PW B E b mb sb {m with slots:=fun i=>if i=k then p else m.slots i } nx vE vA (w.setCells sb (k*2) [.int .u32 p.1,v]):=by
 have hn:m.nslots≠0:=by omega
 obtain⟨g,hr,hg⟩:=h.c.row hn
 have t:ref.Touch [sb] w (w.setCells sb (k*2) [.int .u32 p.1,v]):=touch_setsP sP _ _ _ _ (ref.Touch.refl _ _)
 refine h.row hz hn t _ (fun i=>if i=k then(p.1,v)else g i) (hr.upd hk p.1 v) (fun i hi=> ?_)
 by_cases e:i=k
 ·simp only[if_pos e];exact⟨trivial,hv.touch t sP⟩
 ·simp only[if_neg e];exact⟨(hg i hi).1,(hg i hi).2.touch t sP⟩
theorem then_world{K:Act->World->Prop}{Q:Exit->Act->World->Prop}{a:Act}{W:World}(R:World->Prop)(hr:R W)(h:∀Y,R Y->Exit.then K Q .normal a Y):Exit.then K Q .normal a W:=h W hr
theorem wp_world{P:Program}{c:Code}{Q:Exit->Act->World->Prop}{a:Act}{W:World}(R:World->Prop)(hr:R W)(h:∀Y,R Y->Code.wp P c Q a Y):Code.wp P c Q a W:=h W hr
theorem LB.of {l:List Blk}{n:Nat}(h:BG l n)(hn:n<=100000):LB l:=⟨h.sorted,by have:=h.len;omega,fun x hx=>by have:=h.bd x hx;omega⟩
structure KAt (w0:World) (a n kb c:Nat) (B E b mb sb:Nat) (m:M) (nx:Int) (vE vA:Value) (Y:World):Prop where
 pw:PW B E b mb sb m nx vE vA Y
 g0:Y.cell? ⟨w0.heap.size,0,none⟩=some (.int .u32 (a:Int))
 g1:Y.cell? ⟨w0.heap.size,1,none⟩=some (.slice (some ⟨kb,0,none⟩) n c)
 tt:ref.Touch [b,sb,sb+1] w0 Y
 sv:SlotV B (sb::(sb+1)::b::mb::ref.sblk vE) m.mem ((a:Int),(n:Int)) (.slice (some ⟨kb,0,none⟩) n c) Y
 ng:w0.heap.size≠b/\w0.heap.size≠sb/\w0.heap.size≠sb+1
theorem KAt.up {w0:World}{a n kb c:Nat}{B E b mb sb:Nat}{m m':M}{nx:Int}{vE vA:Value}{Y Y':World}(h:KAt w0 a n kb c B E b mb sb m nx vE vA Y)(hp:PW B E b mb sb m' nx vE vA Y')(t:ref.Touch [b,sb,sb+1] Y Y')(e:m'.mem=m.mem):KAt w0 a n kb c B E b mb sb m' nx vE vA Y':=by
 have lg:=World.block_lt_of_cell? _ _ h.g0
 have ng:w0.heap.size∉[b,sb,sb+1]:=by simp;exact h.ng
 exact⟨hp,(t.cell (p:=⟨w0.heap.size,0,none⟩) lg ng).trans h.g0,(t.cell (p:=⟨w0.heap.size,1,none⟩) lg ng).trans h.g1,h.tt.trans t,by rw[e];exact h.sv.touch t sP,h.ng⟩
end prog
namespace prog
open ChangeShapes WideShapes ChangeAt RowKit nums dnums mach
attribute [local go_sem ↓] Go.wp_at_zero Go.wp_at_succ
theorem keep_n{B E b mb sb:Nat}{m:M}{nx:Int}{vE vA:Value}{w:World}(h:PW B E b mb sb m nx vE vA w)(hz:0<m.size)(hn0:0<m.nslots)(a n kb c:Nat)(ha:a<=512)(hn8:n<=8)(u0:0<=m.used)(u1:m.used<=256)(ar1:m.arena<=256)(hbg:BG m.blocks 50000)(hfull:¬m.arena<m.used+n)
  (hv:SlotV B (sb::(sb+1)::b::mb::ref.sblk vE) m.mem ((a:Int),(n:Int)) (.slice (some ⟨kb,0,none⟩) n c) w):
  Calls Tryz.prog 106 #[.pointer (some ⟨b,40,none⟩),.agg #[.int .u32 (a:Int),.slice (some ⟨kb,0,none⟩) n c]] w fun e w'=>e=.returned (.tuple #[])/\PW B E b mb sb {m with slots:=fun i=>if i=a/4%m.nslots then((a:Int),(n:Int))else m.slots i,used:=m.used+n,built:=m.built+1,blocks:=mach.count m.blocks a n 1 0 } nx vE vA w'/\ref.Touch [b,sb,sb+1] w w'/\SlotV B (sb::(sb+1)::b::mb::ref.sblk vE) m.mem ((a:Int),(n:Int)) (.slice (some ⟨kb,0,none⟩) n c) w':=by
 have hn:m.nslots≠0:=by omega
 have hkn:a/4%m.nslots<m.nslots:=Nat.mod_lt _ hn0
 have lb:=h.lb
 have ls:=h.ls
 have K0:Hid (KAt w a n kb c B E b mb sb m nx vE vA (w.alloc (.cells #[.int .u32 (a:Int),.slice (some ⟨kb,0,none⟩) n c] 128))):=⟨h.quiet hz ((ref.Touch.refl _ _).alloc _),World.cell?_alloc_at _ _ _ _ rfl,World.cell?_alloc_at _ _ _ _ rfl,(ref.Touch.refl _ _).alloc _,hv.touch (S:=[]) ((ref.Touch.refl _ _).alloc _) sP,by omega,by omega,by have:=(h.c.mp hn).1.lt;omega⟩
 have HLE:Hid (m.nslots<=64):=h.c.le
 have HBG:Hid (BG m.blocks 50000):=hbg
 have THR:Hid (∀W,KAt w a n kb c B E b mb sb {m with used:=m.used+n,built:=m.built+1,blocks:=mach.count m.blocks a n 1 0 } nx vE vA W->W.there sb (a/4%m.nslots*2) 2):=fun W hW=>by
  exact Xm1
 have d3:decide (m.arena<m.used+(n:Int))=false:=by simp only[hfull,decide_false]
 have c2:(w.alloc (.cells #[.int .u32 (a:Int),.slice (some ⟨kb,0,none⟩) n c] 128)).cell? ⟨b,42,none⟩=some (.int .i64 m.used):=(K0.out.pw.p.cells 42 dC dC).trans Xm3
 have c3:(w.alloc (.cells #[.int .u32 (a:Int),.slice (some ⟨kb,0,none⟩) n c] 128)).cell? ⟨b,41,none⟩=some (.int .i64 m.arena):=(K0.out.pw.p.cells 41 dC dC).trans Xm3
 clear h hv hbg
 go_enter Tryz.func106,Tryz.ntmps106
 go_wp2_with fail
 go_quiet (fail)
 refine then_world (fun Y=>KAt w a n kb c B E b mb sb m nx vE vA Y) (K0.out.up (K0.out.pw.quiet hz ((ref.Touch.refl _ _).drewN _)) ((ref.Touch.refl _ _).drewN _) rfl) (fun Y1 HY1=> ?_)
 have lb1:b<Y1.heap.size:=HY1.pw.lb
 have g01:=HY1.g0
 have g11:=HY1.g1
 have y421:Y1.cell? ⟨b,42,none⟩=some (.int .i64 m.used):=(HY1.pw.p.cells 42 dC dC).trans Xm3
 have x421:=HY1.pw.p.free 42
 have y401:Y1.cell? ⟨b,40,none⟩=some (.slice (some ⟨sb,0,none⟩) m.nslots m.nslots):=(HY1.pw.p.cells 40 dC dC).trans Xm3
 have x401:=HY1.pw.p.free 40
 have K1:Hid (KAt w a n kb c B E b mb sb m nx vE vA Y1):=HY1
 clear HY1 c2 c3
 go_wp2_with fail
 go_region
 refine then_world (fun Y=>KAt w a n kb c B E b mb sb {m with used:=m.used+n } nx vE vA Y) (K1.out.up ((K1.out.pw.tk hn (m.used+n)).quiet hz (ref.Touch.refl _ _).drew) (((ref.Touch.refl _ _).setCell sP _).drew) rfl) (fun Y2 HY2=> ?_)
 have K2:Hid (KAt w a n kb c B E b mb sb {m with used:=m.used+n } nx vE vA Y2):=HY2
 have h5i:(fun w'=>w'.cell? ⟨w.heap.size,0,none⟩=some (.int .u32 (a:Int))/\w'.cell? ⟨w.heap.size,1,none⟩=some (.slice (some ⟨kb,0,none⟩) n c)/\w'.cell? ⟨b,43,none⟩=some (.map (some (sb+1)))) Y2.drew:=⟨HY2.g0,HY2.g1,(HY2.pw.p.cells 43 dC dC).trans Xm4⟩
 clear HY2
 go_wp2_with fail
 refine wp_region_held_drew (S:=(fun w'=>w'.cell? ⟨w.heap.size,0,none⟩=some (.int .u32 (a:Int))/\w'.cell? ⟨w.heap.size,1,none⟩=some (.slice (some ⟨kb,0,none⟩) n c)/\w'.cell? ⟨b,43,none⟩=some (.map (some (sb+1))))) kR (h5i) (fun hHeld=> ?_)
 refine tkk 0 34 ?_
 refine tkk 1 35 ?_
 refine tkk 2 36 ?_
 refine tkk 3 37 ?_
 refine tkk 4 38 ?_
 try go_frame
 refine rdy 5 (fun K hK=> ?_)
 go_simp
 refine(Calls.mono (cntB_any (sb+1) m.blocks _ ((K2.out.pw.quiet hz (ref.Touch.refl _ _).drew).c.mp hn).1 (LB.of HBG.out dC) a n c (some ⟨kb,0,none⟩) ha) ?_)
 rintro e w3 ⟨rfl,hpm,ht3⟩
 have t3:ref.Touch [sb+1] Y2 w3:=ref.Touch.trans (ref.Touch.refl _ _).drew ht3
 have K3:Hid (KAt w a n kb c B E b mb sb {m with used:=m.used+n,built:=m.built+1,blocks:=mach.count m.blocks a n 1 0 } nx vE vA w3):=K2.out.up (K2.out.pw.counted hz hn t3 _ hpm _) (t3.mono sP) rfl
 have h5:(fun w'=>w'.cell? ⟨w.heap.size,0,none⟩=some (.int .u32 (a:Int))/\w'.cell? ⟨w.heap.size,1,none⟩=some (.slice (some ⟨kb,0,none⟩) n c)/\w'.cell? ⟨b,43,none⟩=some (.map (some (sb+1)))) w3:=⟨K3.out.g0,K3.out.g1,(K3.out.pw.p.cells 43 dC dC).trans Xm4⟩
 clear ht3 t3 hpm
 refine hK.out _ _ (h5) (fun hHeld=> ?_)
 clear hK K
 try go_frame
 refine wpAnyH_done kR ?_ _
 go_wp2_with fail
 have h6i:(fun w'=>w'.cell? ⟨w.heap.size,0,none⟩=some (.int .u32 (a:Int))/\w'.cell? ⟨w.heap.size,1,none⟩=some (.slice (some ⟨kb,0,none⟩) n c)/\w'.cell? ⟨b,40,none⟩=some (.slice (some ⟨sb,0,none⟩) m.nslots m.nslots)) w3.drew:=⟨K3.out.g0,K3.out.g1,(K3.out.pw.p.cells 40 dC dC).trans Xm3⟩
 refine wp_region_held_drew (S:=(fun w'=>w'.cell? ⟨w.heap.size,0,none⟩=some (.int .u32 (a:Int))/\w'.cell? ⟨w.heap.size,1,none⟩=some (.slice (some ⟨kb,0,none⟩) n c)/\w'.cell? ⟨b,40,none⟩=some (.slice (some ⟨sb,0,none⟩) m.nslots m.nslots))) kR (h6i) (fun hHeld=> ?_)
 refine tkk 0 40 ?_
 refine tkk 1 41 ?_
 refine tkk 2 42 ?_
 refine tkk 4 44 ?_
 try go_frame
 refine rdy 3 (fun K hK=> ?_)
 go_simp
 refine(Calls.mono (slot_any b sb m.nslots _ hn0 HLE.out hHeld.2.2 a oM) ?_)
 rintro e w6 ⟨rfl,q6,hq6⟩
 have ht6:ref.Touch [] w3.drew w6:=by rw[hq6];exact(ref.Touch.refl _ _).drewN _
 clear hq6
 have K6:Hid (KAt w a n kb c B E b mb sb {m with used:=m.used+n,built:=m.built+1,blocks:=mach.count m.blocks a n 1 0 } nx vE vA w6):=K3.out.up (K3.out.pw.quiet hz (ref.Touch.trans (ref.Touch.refl _ _).drew ht6)) (ref.Touch.mono (S:=[]) (ref.Touch.trans (ref.Touch.refl _ _).drew ht6) sP) rfl
 have h6:(fun w'=>w'.cell? ⟨w.heap.size,0,none⟩=some (.int .u32 (a:Int))/\w'.cell? ⟨w.heap.size,1,none⟩=some (.slice (some ⟨kb,0,none⟩) n c)/\w'.cell? ⟨b,40,none⟩=some (.slice (some ⟨sb,0,none⟩) m.nslots m.nslots)) w6:=⟨K6.out.g0,K6.out.g1,(K6.out.pw.p.cells 40 dC dC).trans Xm3⟩
 clear ht6
 refine hK.out _ _ h6 (fun hHeld=> ?_)
 clear hK K
 try go_frame
 refine tkk 5 45 ?_
 try go_frame
 refine rdy 6 (fun K hK=> ?_)
 refine wp_store_mid _ _ _ rfl sb (a/4%m.nslots*2) #[.int .u32 (a:Int),.slice (some ⟨kb,0,none⟩) n c] rfl rfl (by exact THR.out _ K6.out) info_bl oC ?_
 generalize h9:World.setCells _ sb (a/4%m.nslots*2) (Array.toList #[.int .u32 (a:Int),.slice (some ⟨kb,0,none⟩) n c])=w9
 have t9:ref.Touch [b,sb,sb+1] w6 w9:=by rw[<-h9];exact touch_setsP sP _ _ _ _ (ref.Touch.refl _ _)
 have K9:Hid (KAt w a n kb c B E b mb sb {m with slots:=fun i=>if i=a/4%m.nslots then((a:Int),(n:Int))else m.slots i,used:=m.used+n,built:=m.built+1,blocks:=mach.count m.blocks a n 1 0 } nx vE vA w9):=K6.out.up Xm2 t9 rfl
 exact Xm0
theorem keep_f{B E b mb sb:Nat}{m:M}{nx:Int}{vE vA:Value}{w:World}(h:PW B E b mb sb m nx vE vA w)(hz:0<m.size)(hn0:0<m.nslots)(a n kb c:Nat)(ha:a<=512)(hn8:n<=8)(u0:0<=m.used)(u1:m.used<=256)(ar1:m.arena<=256)(hbg:BG m.blocks 50000)(hfull:m.arena<m.used+n)
  (hv:SlotV B (sb::(sb+1)::b::mb::ref.sblk vE) m.mem ((a:Int),(n:Int)) (.slice (some ⟨kb,0,none⟩) n c) w):
  Calls Tryz.prog 106 #[.pointer (some ⟨b,40,none⟩),.agg #[.int .u32 (a:Int),.slice (some ⟨kb,0,none⟩) n c]] w fun e w'=>e=.returned (.tuple #[])/\PW B E b mb sb {m with slots:=fun i=>if i=a/4%m.nslots then((a:Int),(n:Int))else(0,0),used:=(n:Int),built:=m.built+1,blocks:=mach.count m.blocks a n 1 0 } nx vE vA w'/\ref.Touch [b,sb,sb+1] w w'/\SlotV B (sb::(sb+1)::b::mb::ref.sblk vE) m.mem ((a:Int),(n:Int)) (.slice (some ⟨kb,0,none⟩) n c) w':=by
 have hn:m.nslots≠0:=by omega
 have hkn:a/4%m.nslots<m.nslots:=Nat.mod_lt _ hn0
 have lb:=h.lb
 have ls:=h.ls
 have K0:Hid (KAt w a n kb c B E b mb sb m nx vE vA (w.alloc (.cells #[.int .u32 (a:Int),.slice (some ⟨kb,0,none⟩) n c] 128))):=⟨h.quiet hz ((ref.Touch.refl _ _).alloc _),World.cell?_alloc_at _ _ _ _ rfl,World.cell?_alloc_at _ _ _ _ rfl,(ref.Touch.refl _ _).alloc _,hv.touch (S:=[]) ((ref.Touch.refl _ _).alloc _) sP,by omega,by omega,by have:=(h.c.mp hn).1.lt;omega⟩
 have HLE:Hid (m.nslots<=64):=h.c.le
 have HBG:Hid (BG m.blocks 50000):=hbg
 have THR:Hid (∀W,KAt w a n kb c B E b mb sb {m with slots:=fun _=>(0,0),used:=(n:Int),built:=m.built+1,blocks:=mach.count m.blocks a n 1 0 } nx vE vA W->W.there sb (a/4%m.nslots*2) 2):=fun W hW=>by
  exact Xm1
 have d3:decide (m.arena<m.used+(n:Int))=true:=by simp;omega
 have c2:(w.alloc (.cells #[.int .u32 (a:Int),.slice (some ⟨kb,0,none⟩) n c] 128)).cell? ⟨b,42,none⟩=some (.int .i64 m.used):=(K0.out.pw.p.cells 42 dC dC).trans Xm3
 have c3:(w.alloc (.cells #[.int .u32 (a:Int),.slice (some ⟨kb,0,none⟩) n c] 128)).cell? ⟨b,41,none⟩=some (.int .i64 m.arena):=(K0.out.pw.p.cells 41 dC dC).trans Xm3
 clear h hv hbg
 go_enter Tryz.func106,Tryz.ntmps106
 go_wp2_with fail
 go_quiet (fail)
 refine then_world (fun Y=>KAt w a n kb c B E b mb sb m nx vE vA Y) (K0.out.up (K0.out.pw.quiet hz ((ref.Touch.refl _ _).drewN _)) ((ref.Touch.refl _ _).drewN _) rfl) (fun Y1 HY1=> ?_)
 have lb1:b<Y1.heap.size:=HY1.pw.lb
 have g01:=HY1.g0
 have g11:=HY1.g1
 have y421:Y1.cell? ⟨b,42,none⟩=some (.int .i64 m.used):=(HY1.pw.p.cells 42 dC dC).trans Xm3
 have x421:=HY1.pw.p.free 42
 have y401:Y1.cell? ⟨b,40,none⟩=some (.slice (some ⟨sb,0,none⟩) m.nslots m.nslots):=(HY1.pw.p.cells 40 dC dC).trans Xm3
 have x401:=HY1.pw.p.free 40
 have K1:Hid (KAt w a n kb c B E b mb sb m nx vE vA Y1):=HY1
 clear HY1 c2 c3
 have hcl:∀ty,(Builtin.clear_ #[85] ty #[.slice (some ⟨sb,0,none⟩) m.nslots m.nslots]).run Tryz.prog Y1=.ok (.tuple #[]) (Y1.setCells sb 0 (zeroL m.nslots)):=fun ty=>by
  obtain⟨g,hr,_⟩:=K1.out.pw.c.row hn
  exact clear_row Y1 ty sb 0 m.nslots m.nslots hn0 (fun j hj=>by rw[Nat.zero_add];exact hr.there j hj) hr.free
 have KZ:Hid (KAt w a n kb c B E b mb sb {m with slots:=fun _=>(0,0) } nx vE vA (Y1.setCells sb 0 (zeroL m.nslots))):=K1.out.up (K1.out.pw.zero hz hn) (touch_setsP sP _ _ _ _ (ref.Touch.refl _ _)) rfl
 obtain⟨Yz,hYz⟩:∃Yz,Yz=Y1.setCells sb 0 (zeroL m.nslots):=⟨_,rfl⟩
 rw[<-hYz]at KZ
 simp only[<-hYz]at hcl
 clear hYz
 have yzT:∃u,Yz.cell? ⟨b,42,none⟩=some u:=KZ.out.pw.p.there 42 dC
 obtain⟨uz,yzT⟩:=yzT
 have xzT:=KZ.out.pw.p.free 42
 have lbz:=KZ.out.pw.lb
 have KC:Hid (KAt w a n kb c B E b mb sb {m with slots:=fun _=>(0,0),used:=0 } nx vE vA (Yz.setCell ⟨b,42,none⟩ (.int .i64 0))):=KZ.out.up (KZ.out.pw.tk hn 0) ((ref.Touch.refl _ _).setCell sP _) rfl
 go_wp2_with fail
 refine wp_world (fun Y=>KAt w a n kb c B E b mb sb {m with slots:=fun _=>(0,0),used:=0 } nx vE vA Y) KC.out (fun Yc HYc=> ?_)
 have lbc:b<Yc.heap.size:=HYc.pw.lb
 have g0c:=HYc.g0
 have g1c:=HYc.g1
 have y42c:Yc.cell? ⟨b,42,none⟩=some (.int .i64 0):=(HYc.pw.p.cells 42 dC dC).trans Xm3
 have x42c:=HYc.pw.p.free 42
 have Kc:Hid (KAt w a n kb c B E b mb sb {m with slots:=fun _=>(0,0),used:=0 } nx vE vA Yc):=HYc
 clear HYc
 go_region
 refine then_world (fun Y=>KAt w a n kb c B E b mb sb {m with slots:=fun _=>(0,0),used:=(n:Int) } nx vE vA Y) (Kc.out.up ((Kc.out.pw.tk hn ((n:Int))).quiet hz (ref.Touch.refl _ _).drew) (((ref.Touch.refl _ _).setCell sP _).drew) rfl) (fun Y2 HY2=> ?_)
 have K2:Hid (KAt w a n kb c B E b mb sb {m with slots:=fun _=>(0,0),used:=(n:Int) } nx vE vA Y2):=HY2
 have h5i:(fun w'=>w'.cell? ⟨w.heap.size,0,none⟩=some (.int .u32 (a:Int))/\w'.cell? ⟨w.heap.size,1,none⟩=some (.slice (some ⟨kb,0,none⟩) n c)/\w'.cell? ⟨b,43,none⟩=some (.map (some (sb+1)))) Y2.drew:=⟨HY2.g0,HY2.g1,(HY2.pw.p.cells 43 dC dC).trans Xm4⟩
 clear HY2
 go_wp2_with fail
 refine wp_region_held_drew (S:=(fun w'=>w'.cell? ⟨w.heap.size,0,none⟩=some (.int .u32 (a:Int))/\w'.cell? ⟨w.heap.size,1,none⟩=some (.slice (some ⟨kb,0,none⟩) n c)/\w'.cell? ⟨b,43,none⟩=some (.map (some (sb+1))))) kR (h5i) (fun hHeld=> ?_)
 refine tkk 0 34 ?_
 refine tkk 1 35 ?_
 refine tkk 2 36 ?_
 refine tkk 3 37 ?_
 refine tkk 4 38 ?_
 try go_frame
 refine rdy 5 (fun K hK=> ?_)
 go_simp
 refine(Calls.mono (cntB_any (sb+1) m.blocks _ ((K2.out.pw.quiet hz (ref.Touch.refl _ _).drew).c.mp hn).1 (LB.of HBG.out dC) a n c (some ⟨kb,0,none⟩) ha) ?_)
 rintro e w3 ⟨rfl,hpm,ht3⟩
 have t3:ref.Touch [sb+1] Y2 w3:=ref.Touch.trans (ref.Touch.refl _ _).drew ht3
 have K3:Hid (KAt w a n kb c B E b mb sb {m with slots:=fun _=>(0,0),used:=(n:Int),built:=m.built+1,blocks:=mach.count m.blocks a n 1 0 } nx vE vA w3):=K2.out.up (K2.out.pw.counted hz hn t3 _ hpm _) (t3.mono sP) rfl
 have h5:(fun w'=>w'.cell? ⟨w.heap.size,0,none⟩=some (.int .u32 (a:Int))/\w'.cell? ⟨w.heap.size,1,none⟩=some (.slice (some ⟨kb,0,none⟩) n c)/\w'.cell? ⟨b,43,none⟩=some (.map (some (sb+1)))) w3:=⟨K3.out.g0,K3.out.g1,(K3.out.pw.p.cells 43 dC dC).trans Xm4⟩
 clear ht3 t3 hpm
 refine hK.out _ _ (h5) (fun hHeld=> ?_)
 clear hK K
 try go_frame
 refine wpAnyH_done kR ?_ _
 go_wp2_with fail
 have h6i:(fun w'=>w'.cell? ⟨w.heap.size,0,none⟩=some (.int .u32 (a:Int))/\w'.cell? ⟨w.heap.size,1,none⟩=some (.slice (some ⟨kb,0,none⟩) n c)/\w'.cell? ⟨b,40,none⟩=some (.slice (some ⟨sb,0,none⟩) m.nslots m.nslots)) w3.drew:=⟨K3.out.g0,K3.out.g1,(K3.out.pw.p.cells 40 dC dC).trans Xm3⟩
 refine wp_region_held_drew (S:=(fun w'=>w'.cell? ⟨w.heap.size,0,none⟩=some (.int .u32 (a:Int))/\w'.cell? ⟨w.heap.size,1,none⟩=some (.slice (some ⟨kb,0,none⟩) n c)/\w'.cell? ⟨b,40,none⟩=some (.slice (some ⟨sb,0,none⟩) m.nslots m.nslots))) kR (h6i) (fun hHeld=> ?_)
 refine tkk 0 40 ?_
 refine tkk 1 41 ?_
 refine tkk 2 42 ?_
 refine tkk 4 44 ?_
 try go_frame
 refine rdy 3 (fun K hK=> ?_)
 go_simp
 refine(Calls.mono (slot_any b sb m.nslots _ hn0 HLE.out hHeld.2.2 a oM) ?_)
 rintro e w6 ⟨rfl,q6,hq6⟩
 have ht6:ref.Touch [] w3.drew w6:=by rw[hq6];exact(ref.Touch.refl _ _).drewN _
 clear hq6
 have K6:Hid (KAt w a n kb c B E b mb sb {m with slots:=fun _=>(0,0),used:=(n:Int),built:=m.built+1,blocks:=mach.count m.blocks a n 1 0 } nx vE vA w6):=K3.out.up (K3.out.pw.quiet hz (ref.Touch.trans (ref.Touch.refl _ _).drew ht6)) (ref.Touch.mono (S:=[]) (ref.Touch.trans (ref.Touch.refl _ _).drew ht6) sP) rfl
 have h6:(fun w'=>w'.cell? ⟨w.heap.size,0,none⟩=some (.int .u32 (a:Int))/\w'.cell? ⟨w.heap.size,1,none⟩=some (.slice (some ⟨kb,0,none⟩) n c)/\w'.cell? ⟨b,40,none⟩=some (.slice (some ⟨sb,0,none⟩) m.nslots m.nslots)) w6:=⟨K6.out.g0,K6.out.g1,(K6.out.pw.p.cells 40 dC dC).trans Xm3⟩
 clear ht6
 refine hK.out _ _ h6 (fun hHeld=> ?_)
 clear hK K
 try go_frame
 refine tkk 5 45 ?_
 try go_frame
 refine rdy 6 (fun K hK=> ?_)
 refine wp_store_mid _ _ _ rfl sb (a/4%m.nslots*2) #[.int .u32 (a:Int),.slice (some ⟨kb,0,none⟩) n c] rfl rfl (by exact THR.out _ K6.out) info_bl oC ?_
 generalize h9:World.setCells _ sb (a/4%m.nslots*2) (Array.toList #[.int .u32 (a:Int),.slice (some ⟨kb,0,none⟩) n c])=w9
 have t9:ref.Touch [b,sb,sb+1] w6 w9:=by rw[<-h9];exact touch_setsP sP _ _ _ _ (ref.Touch.refl _ _)
 have K9:Hid (KAt w a n kb c B E b mb sb {m with slots:=fun i=>if i=a/4%m.nslots then((a:Int),(n:Int))else(0,0),used:=(n:Int),built:=m.built+1,blocks:=mach.count m.blocks a n 1 0 } nx vE vA w9):=K6.out.up Xm2 t9 rfl
 exact Xm0
def keepM (m:M) (a n:Nat):M:={m with slots:=fun i=>if i=a/4%m.nslots then((a:Int),(n:Int))else(if decide (m.arena<m.used+n)then fun _=>((0:Int),(0:Int))else m.slots) i,used:=(if decide (m.arena<m.used+n)then 0 else m.used)+n,built:=m.built+1,blocks:=mach.count m.blocks a n 1 0 }
theorem keep_any{B E b mb sb:Nat}{m:M}{nx:Int}{vE vA:Value}{w:World}(h:PW B E b mb sb m nx vE vA w)(hz:0<m.size)(hn0:0<m.nslots)(a n kb c:Nat)(ha:a<=512)(hn8:n<=8)(u0:0<=m.used)(u1:m.used<=256)(ar1:m.arena<=256)(hbg:BG m.blocks 50000)
  (hv:SlotV B (sb::(sb+1)::b::mb::ref.sblk vE) m.mem ((a:Int),(n:Int)) (.slice (some ⟨kb,0,none⟩) n c) w):
  Calls Tryz.prog 106 #[.pointer (some ⟨b,40,none⟩),.agg #[.int .u32 (a:Int),.slice (some ⟨kb,0,none⟩) n c]] w fun e w'=>e=.returned (.tuple #[])/\PW B E b mb sb (keepM m a n) nx vE vA w'/\ref.Touch [b,sb,sb+1] w w':=by
 unfold keepM
 by_cases hf:m.arena<m.used+n
 ·rw[decide_eq_true hf]
  refine(keep_f h hz hn0 a n kb c ha hn8 u0 u1 ar1 hbg hf hv).mono ?_
  rintro e w' ⟨h1,h2,h3,_⟩
  exact⟨h1,h2.congr rfl rfl rfl rfl rfl rfl rfl rfl rfl rfl rfl rfl (by show 0+(n:Int)=(n:Int);exact Int.zero_add _) rfl,h3⟩
 ·rw[decide_eq_false hf]
  refine(keep_n h hz hn0 a n kb c ha hn8 u0 u1 ar1 hbg hf hv).mono ?_
  rintro e w' ⟨h1,h2,h3,_⟩
  exact⟨h1,h2.congr rfl rfl rfl rfl rfl rfl rfl rfl rfl rfl rfl rfl rfl rfl,h3⟩
end prog
end Go.Proofs.YtjikimpejlmdiaaGreatDoor

import Derived.Test.YtjikimpejlmdiaaGreatDoorZGl
import Derived.Test.YtjikimpejlmdiaaGreatDoorZPrXA
import Derived.Test.YtjikimpejlmdiaaGreatDoorZGj
import Derived.Test.YtjikimpejlmdiaaGreatDoorZGa
import Derived.Lib.LazyBuf
set_option maxHeartbeats 4000000
set_option linter.unusedVariables false
set_option linter.unusedSimpArgs false
set_option maxRecDepth 10000
namespace Go.Proofs.YtjikimpejlmdiaaGreatDoor
theorem Xd0{p:Prop}(h:p:=by
 go_enter Tryz.func173,Tryz.ntmps173
 go_wp2
 go_ret
 exact⟨rfl,_,HP.out,(ref.Touch.refl _ _).setCell sP _⟩):p:=h
theorem Xd1{p:Prop}(h:p:=by intro i hi;simp at hi;subst hi;exact h.p.hb):p:=h
namespace prog
open ChangeShapes WideShapes ChangeAt RowKit nums dnums mach
attribute [local go_sem ↓] Go.wp_at_zero Go.wp_at_succ
def vX3 (lo:Int) (vE vA:Value) (vC:Nat->Value) (i:Nat):Value:=if i=35 then .int .u32 lo else if i=37 then vA else if i=38 then vE else vC i
def cacheV (ns:Nat) (ar us:Int) (sb:Nat) (i:Nat):Value:=if i=40 then slotsV ns sb else if i=41 then .int .i64 (if ns=0 then 0 else ar)else if i=42 then .int .i64 (if ns=0 then 0 else us)else mapV ns sb
abbrev PX (m:M) (sb:Nat) (vE vA:Value):Nat->Value:=vX3 m.low vE vA (cacheV m.nslots m.arena m.used sb)
structure PW (B E b mb sb:Nat) (m:M) (nx:Int) (vE vA:Value) (w:World):Prop where
 p:PAt B b mb m nx (PX m sb vE vA) w
 be:B<=E
 eh:E<=w.heap.size
 evs:w.ownsRow E 52 3 vE m.evs.length (ref.evCells m.evs)
 ans:ref.AnsAt B m.ans vA w
 dE:∀k,k∈ref.sblk vE->k≠b/\k≠mb/\k≠sb
 c:CAt B sb (b::mb::ref.sblk vE) m w
 hsb:B<=sb
 ls:sb<w.heap.size
theorem PW.lb {B E b mb sb:Nat}{m:M}{nx:Int}{vE vA:Value}{w:World}(h:PW B E b mb sb m nx vE vA w):b<w.heap.size:=World.block_lt_of_cell? _ _ h.p.data
theorem PW.bs {B E b mb sb:Nat}{m:M}{nx:Int}{vE vA:Value}{w:World}(h:PW B E b mb sb m nx vE vA w):B<=w.heap.size:=Nat.le_trans h.p.hb (Nat.le_of_lt h.lb)
theorem PW.ct {B E b mb sb:Nat}{m:M}{nx:Int}{vE vA:Value}{w:World}(h:PW B E b mb sb m nx vE vA w):PCt B b mb sb (b::mb::ref.sblk vE) m nx (PX m sb vE vA) w:=⟨h.p,h.c,rfl,by simp,by simp⟩
theorem PX_congr{m m':M}(sb:Nat)(vE vA:Value)(e3:m'.low=m.low)(e4:m'.nslots=m.nslots)(e5:m'.arena=m.arena)(e6:m'.used=m.used):PX m' sb vE vA=PX m sb vE vA:=by
 show vX3 m'.low vE vA (cacheV m'.nslots m'.arena m'.used sb)=_
 rw[e3,e4,e5,e6]
theorem PW.of {B E b mb sb:Nat}{m m':M}{nx nx':Int}{vE vA:Value}{w w':World}(h:PW B E b mb sb m nx vE vA w)(hc:PCt B b mb sb (b::mb::ref.sblk vE) m' nx' (PX m sb vE vA) w')(t:ref.Touch [b,mb,sb] w w')(e1:m'.evs=m.evs)(e2:m'.ans=m.ans)(e3:m'.low=m.low)(e4:m'.nslots=m.nslots)(e5:m'.arena=m.arena)(e6:m'.used=m.used):PW B E b mb sb m' nx' vE vA w':=by
 have hbel:Below B w w':=t.below h.bs (by intro i hi;simp at hi;rcases hi with rfl|rfl|rfl;exact h.p.hb;exact h.p.hmb;exact h.hsb)
 refine⟨by rw[PX_congr sb vE vA e3 e4 e5 e6];exact hc.p,h.be,Nat.le_trans h.eh t.size, ?_, ?_,h.dE,hc.c,h.hsb,Nat.lt_of_lt_of_le h.ls t.size⟩
 ·rw[e1];exact ref.own_touch h.evs t (fun k hk=>by have:=h.dE k hk;simp[this.1,this.2])
 ·rw[e2];exact h.ans.below hbel
theorem PW.step {B E b mb sb:Nat}{m m':M}{nx nx':Int}{vE vA:Value}{w w':World}(h:PW B E b mb sb m nx vE vA w)(hp:PAt B b mb m' nx' (PX m' sb vE vA) w')(t:ref.Touch [b,mb] w w')(e1:m'.evs=m.evs)(e2:m'.ans=m.ans)(e3:m'.nslots=m.nslots)(e4:m'.slots=m.slots)(e5:m'.mem=m.mem)(e6:m'.blocks=m.blocks:=by rfl):PW B E b mb sb m' nx' vE vA w':=by
 have hbel:Below B w w':=t.below h.bs (by intro i hi;simp at hi;rcases hi with rfl|rfl;exact h.p.hb;exact h.p.hmb)
 refine⟨hp,h.be,Nat.le_trans h.eh t.size, ?_, ?_,h.dE,(h.c.touch t sP).congr e3 e4 e5 e6,h.hsb,Nat.lt_of_lt_of_le h.ls t.size⟩
 ·rw[e1];exact ref.own_touch h.evs t (fun k hk=>by have:=h.dE k hk;simp[this.1,this.2.1])
 ·rw[e2];exact h.ans.below hbel
theorem PW.quiet {B E b mb sb:Nat}{m:M}{nx:Int}{vE vA:Value}{w w':World}(h:PW B E b mb sb m nx vE vA w)(hz:0<m.size)(t:ref.Touch [] w w'):PW B E b mb sb m nx vE vA w':=
 h.step (h.p.other t sP sP hz) (t.mono sP) rfl rfl rfl rfl rfl
theorem PW.congr {B E b mb sb:Nat}{m m':M}{nx:Int}{vE vA:Value}{w:World}(h:PW B E b mb sb m nx vE vA w)(e1:m'.regs=m.regs)(e2:m'.pc=m.pc)(e3:m'.brk=m.brk)(e4:m'.steps=m.steps)(e5:m'.mem=m.mem)(e6:m'.size=m.size)(e7:m'.low=m.low)(e8:m'.evs=m.evs)(e9:m'.ans=m.ans)
  (c1:m'.nslots=m.nslots) (c2:m'.slots=m.slots) (c3:m'.arena=m.arena) (c4:m'.used=m.used) (c5:m'.blocks=m.blocks):PW B E b mb sb m' nx vE vA w:=by
 refine⟨by rw[PX_congr sb vE vA e7 c1 c3 c4];exact h.p.cong e1 e2 e3 e4 e5 e6,h.be,h.eh,by rw[e8];exact h.evs,by rw[e9];exact h.ans,h.dE,h.c.congr c1 c2 e5 c5,h.hsb,h.ls⟩
theorem PW.cE {B E b mb sb:Nat}{m:M}{nx:Int}{vE vA:Value}{w:World}(h:PW B E b mb sb m nx vE vA w):w.cell? ⟨b,38,none⟩=some vE:=h.p.cells 38 dC dC
theorem PW.cA {B E b mb sb:Nat}{m:M}{nx:Int}{vE vA:Value}{w:World}(h:PW B E b mb sb m nx vE vA w):w.cell? ⟨b,37,none⟩=some vA:=h.p.cells 37 dC dC
theorem PW.cL {B E b mb sb:Nat}{m:M}{nx:Int}{vE vA:Value}{w:World}(h:PW B E b mb sb m nx vE vA w):w.cell? ⟨b,35,none⟩=some (.int .u32 m.low):=h.p.cells 35 dC dC
theorem at_ans{B E b mb sb:Nat}{m:M}{nx:Int}{vE vA:Value}{w:World}(h:PW B E b mb sb m nx vE vA w)(l:List ByteArray)(v:Value):PAt B b mb {m with ans:=l } nx (PX m sb vE v) (w.setCell ⟨b,37,none⟩ v):=
 h.p.upd (m':={m with ans:=l }) (nx':=nx) (vX':=PX m sb vE v) 37 dC dC _ rfl rfl (fun i hi hM=>Or.elim (Decidable.em (i=37)) (fun e=>by subst e;simp[layP,vX3]) (fun e=>by
  have:i<32\/i=33\/i=34\/i=35\/i=36\/i=38\/i=39\/i=40\/i=41\/i=42\/i=43:=by omega
  rw[if_neg e]
  rcases this with k|k|k|k|k|k|k|k|k|k|k<;>simp[layP,vX3,k]))
theorem at_brk{B b mb:Nat}{m:M}{nx:Int}{vX:Nat->Value}{w:World}(h:PAt B b mb m nx vX w)(v:Int):PAt B b mb {m with brk:=v } nx vX (w.setCell ⟨b,36,none⟩ (.int .u32 v)):=
 h.upd (m':={m with brk:=v }) (nx':=nx) (vX':=vX) 36 dC dC _ rfl rfl (fun i hi hM=>Or.elim (Decidable.em (i=36)) (fun e=>by subst e;simp[layP]) (fun e=>by simp[layP,e]))
theorem grown_p{B E b mb sb:Nat}{m:M}{nx:Int}{vE vA:Value}{w w1:World}{o:Obj}{g:Nat}(h:PW B E b mb sb m nx vE vA w)(hz:0<m.size)(hgrow:(w.alloc o).grownBy w1 vE.ownBlock)(hat:vE.ownBlock=some g\/g=w.heap.size+1):
  PAt B b mb m nx (PX m sb vE vA) w1/\ref.Touch (ref.sblk vE) w w1/\(g≠b/\g≠mb/\g≠sb)/\Below B w w1/\CAt B sb (b::mb::[g]) m w1:=by
 have ht:ref.Touch (ref.sblk vE) w w1:=((ref.Touch.refl _ _).alloc _).trans (ref.touch_grown hgrow)
 have lb:=h.lb
 have lm:mb<w.heap.size:=World.block_lt_of_cell? _ _ (h.p.bytes 0 hz)
 have ls:=h.ls
 refine⟨h.p.other ht (fun hc=>(h.dE b hc).1 rfl) (fun hc=>(h.dE mb hc).2.1 rfl) hz,ht, ?_, ?_, ?_⟩
 ·rcases hat with hat|hat
  ·exact h.dE g (ref.sblk_own.2 hat)
  ·subst hat;exact⟨by omega,by omega,by omega⟩
 ·exact ht.below h.bs (fun k hk=>Nat.le_trans h.be (ref.own_lt h.evs k hk).1)
 ·have c1:CAt B sb (b::mb::g::ref.sblk vE) m w:=h.c.sub (fun k hk hx=>by
   simp at hx ⊢
   refine⟨hx.1,hx.2.1,fun e=> ?_,hx.2.2⟩
   subst e
   rcases hat with hat|hat
   ·exact hx.2.2 (ref.sblk_own.2 hat)
   ·omega)
  exact(c1.touch ht (by intro s hs;simp;exact Or.inr (Or.inr (Or.inr hs)))).sub (fun k _ hx=>by simp at hx ⊢;exact⟨hx.1,hx.2.1,hx.2.2.1⟩)
theorem pw_ev{B E b mb sb:Nat}{m:M}{nx:Int}{vE vA:Value}{w w1:World}{g cap:Nat}{ev:Ev}(h:PW B E b mb sb m nx vE vA w)(hp:PAt B b mb m nx (PX m sb vE vA) w1)(hd:g≠b/\g≠mb/\g≠sb)(hbel:Below B w w1)(hca:CAt B sb (b::mb::[g]) m w1)
  (ho:w1.ownsRow E 52 3 (.slice (some ⟨g,0,none⟩) (m.evs.length+1) cap) (m.evs.length+1) (ref.evCells m.evs++[Value.int .u32 ev.call,Value.int .u32 ev.result,Value.string ev.data])):
  PW B E b mb sb {m with evs:=m.evs++[ev] } nx (.slice (some ⟨g,0,none⟩) (m.evs.length+1) cap) vA (w1.setCell ⟨b,38,none⟩ (.slice (some ⟨g,0,none⟩) (m.evs.length+1) cap)):=by
 have t:ref.Touch [b] w1 (w1.setCell ⟨b,38,none⟩ (.slice (some ⟨g,0,none⟩) (m.evs.length+1) cap)):=(ref.Touch.refl _ _).setCell sP _
 have hB1:B<=w1.heap.size:=Nat.le_trans h.bs hbel.size
 have hb2:Below B w (w1.setCell ⟨b,38,none⟩ (.slice (some ⟨g,0,none⟩) (m.evs.length+1) cap)):=hbel.trans (t.below hB1 Xd1)
 have hp1:PAt B b mb {m with evs:=m.evs++[ev] } nx (PX m sb (.slice (some ⟨g,0,none⟩) (m.evs.length+1) cap) vA) (w1.setCell ⟨b,38,none⟩ (.slice (some ⟨g,0,none⟩) (m.evs.length+1) cap)):=
  hp.upd (m':={m with evs:=m.evs++[ev] }) (nx':=nx) (vX':=PX m sb (.slice (some ⟨g,0,none⟩) (m.evs.length+1) cap) vA) 38 dC dC _ rfl rfl (fun i hi hM=>Or.elim (Decidable.em (i=38)) (fun e=>by subst e;simp[layP,vX3]) (fun e=>by
  have:i<32\/i=33\/i=34\/i=35\/i=36\/i=37\/i=39\/i=40\/i=41\/i=42\/i=43:=by omega
  rw[if_neg e]
  rcases this with k|k|k|k|k|k|k|k|k|k|k<;>simp[layP,vX3,k]))
 refine⟨hp1,h.be,Nat.le_trans h.eh hb2.size, ?_,h.ans.below hb2, ?_,(hca.touch t sP).congr rfl rfl rfl,h.hsb,Nat.lt_of_lt_of_le h.ls hb2.size⟩
 ·have:=ref.own_touch ho t (by simp[ref.sblk];exact hd.1)
  show World.ownsRow _ _ _ _ _ (m.evs++[ev]).length (ref.evCells (m.evs++[ev]))
  rw[List.length_append]
  rw[show ref.evCells (m.evs++[ev])=ref.evCells m.evs++[Value.int .u32 ev.call,Value.int .u32 ev.result,Value.string ev.data]from ref.evCells_add _ _ _ _]
  exact this
 ·intro k hk2
  simp[ref.sblk]at hk2
  subst hk2
  exact hd
theorem tell_any{B E b mb sb:Nat}{m:M}{nx:Int}{vE vA:Value}{w:World}(h:PW B E b mb sb m nx vE vA w)(hz:0<m.size)(hsz:m.evs.length<=2000)(c r:Int)(d:ByteArray):
  Calls Tryz.prog 175 #[.pointer (some ⟨b,0,none⟩),.agg #[.int .u32 c,.int .u32 r,.string d]] w fun e w'=>e=.returned (.tuple #[])/\∃vE',PW B E b mb sb {m with evs:=m.evs++[⟨c,r,d⟩] } nx vE' vA w'/\ref.Touch (b::ref.sblk vE) w w':=by
 have HH:Hid (PW B E b mb sb m nx vE vA (w.alloc (.cells #[.int .u32 c,.int .u32 r,.string d] 52))):=h.quiet hz ((ref.Touch.refl _ _).alloc _)
 obtain⟨i0,hi,hz0,hz1,hz2⟩:=info_parts ref.info_ev
 have lb:b<w.heap.size:=h.lb
 have HBs:Hid (E<=w.heap.size+1+1):=(by have:=h.eh;omega:E<=w.heap.size+1+1)
 have cE:(w.alloc (.cells #[.int .u32 c,.int .u32 r,.string d] 52)).cell? ⟨b,38,none⟩=some vE:=HH.out.cE
 clear h
 go_enter Tryz.func175,Tryz.ntmps175
 go_wp2_with fail
 go_region_law ((refine step_append_lies _ rF _ _ _ rF E 52 i0 _ 3 24 Tryz.underlying30 hi hz0 hz1 hz2 rF dC vE m.evs.length (ref.evCells m.evs) rF ((HH.out.evs.alloc _).drew) ⟨(w.alloc (.cells #[.int .u32 c,.int .u32 r,.string d] 52)).heap.size,0,none⟩ 1 1 [Value.int .u32 c,Value.int .u32 r,Value.string d] (by first|rfl|(simp;rfl)) rF (World.news_of_block (cs:=#[.int .u32 c,.int .u32 r,.string d]) (t:=52) (fr:=(0,0)) (heap_alloc_new (w.alloc (.cells #[.int .u32 c,.int .u32 r,.string d] 52)) _)) oC dC mL oM (by simpa using HBs.out) ((w.alloc (.cells #[.int .u32 c,.int .u32 r,.string d] 52)).heap.size+1) sP ?_);intro g cap w1 hown hgrow hat hlt2;obtain⟨hr,ht,hd,hbel,hca⟩:=grown_p HH.out hz (ref.grown_undrew hgrow) hat;have HCA:Hid (CAt B sb (b::mb::[g]) m w1):=hca;have HR:Hid (PAt B b mb m nx (PX m sb vE vA) w1):=hr;have HT:Hid (ref.Touch (ref.sblk vE) (w.alloc (.cells #[.int .u32 c,.int .u32 r,.string d] 52)) w1):=ht;have HD:Hid (g≠b/\g≠mb/\g≠sb):=hd;have HB:Hid (Below B (w.alloc (.cells #[.int .u32 c,.int .u32 r,.string d] 52)) w1):=hbel;have HO:Hid (w1.ownsRow E 52 3 (.slice (some ⟨g,0,none⟩) (m.evs.length+1) cap) (m.evs.length+1) (ref.evCells m.evs++[Value.int .u32 c,Value.int .u32 r,Value.string d])):=hown;have dE:w1.cell? ⟨b,38,none⟩=some vE:=hr.cells 38 dC dC;have fE:=hr.free 38;clear hr ht hd hbel hown hat hlt2 hca)
 all_goals go_wp2_with fail
 all_goals go_end0
 all_goals (refine⟨rfl,_,pw_ev (ev:=⟨c,r,d⟩) HH.out HR.out HD.out HB.out HCA.out HO.out, ?_⟩;exact ref.Touch.setCell ((((ref.Touch.refl _ _).alloc _).trans HT.out).mono (by simp;intro i hi;exact Or.inr hi)) sP _)
theorem run_copy_string_cut(w:World)(dT sT ty elem:TypeId)(b o dLen dCap:Nat)(t:ByteArray)
  (hu:Tryz.prog.underlying dT=some (.slice elem)) (hz:∀w,(Go.sizeOf elem).run Tryz.prog w=.ok 1 w) (hle:dLen<=t.size)
  (hc:∀j,j<dLen->(w.cell? ⟨b,o+j,none⟩).isSome=true) (hf:∀j,j<dLen->w.frozen? ⟨b,o+j,none⟩=false):
  (Builtin.copy_ #[dT,sT] ty #[.slice (some ⟨b,o,none⟩) dLen dCap,.string t]).run Tryz.prog w=.ok (goInt dLen) (w.setCells b o (ref.strCells (t.extract 0 dLen))):=by
 have hmin:Nat.min t.size dLen=dLen:=Nat.min_eq_right hle
 have hE:ref.strCells (t.extract 0 dLen)=(t.data.toList.map fun x=>Value.int .u8 (x.toNat:Int)).take dLen:=by
  unfold ref.strCells
  rw[<-List.map_take,show(t.extract 0 dLen).data.toList=t.data.toList.take dLen from by simp[ByteArray.data_extract,Array.toList_extract]]
 have hl:((t.data.toList.map fun x=>Value.int .u8 (x.toNat:Int)).take dLen).length=dLen:=by rw[List.length_take,List.length_map,<-Lib.size_eq];omega
 have hst:=run_storeCells_cells (P:=Tryz.prog) b o ((t.data.toList.map fun x=>Value.int .u8 (x.toNat:Int)).take dLen) 0 w (by rw[hl];simpa using hc) (by rw[hl];simpa using hf) (by
  intro v hv
  obtain⟨x,_,rfl⟩:=List.mem_map.1 (List.mem_of_mem_take hv)
  rfl)
 rw[hE]
 simp[Builtin.copy_,run_underlying hu,Builtin.lenOf,Builtin.firstCells,hz,hmin]
 simp at hst
 rw[hst]
 rfl
theorem PAt.puts {B b mb:Nat}{m:M}{nx:Int}{vX:Nat->Value}{w:World}(h:PAt B b mb m nx vX w)(k:Nat)(t:ByteArray)(hk:k+t.size<=m.size):PAt B b mb {m with mem:=put m.mem k t } nx vX (w.setCells mb k (ref.strCells t)):=by
 have e:ref.strCells t=(t.data.toList.map fun x=>(x.toNat:Int)).map (Value.int .u8):=by simp[ref.strCells]
 have hl:(t.data.toList.map fun x=>(x.toNat:Int)).length=t.size:=by rw[List.length_map,<-Lib.size_eq]
 rw[e]
 refine h.sets k _ _ (by rw[hl];exact hk) (fun i=> ?_)
 rw[hl]
 show put m.mem k t i=_
 unfold put
 by_cases c:k<=i/\i<k+t.size
 ·rw[if_pos c,if_pos c]
  have hs:i-k<t.data.size:=by have:t.size=t.data.size:=rfl;omega
  have hs2:i-k<t.size:=hs
  simp[List.getD,Array.getD,hs,hs2]
 ·rw[if_neg c,if_neg c]
theorem conv_p{B b mb:Nat}{m:M}{nx:Int}{vX:Nat->Value}{w:World}(h:PAt B b mb m nx vX w)(hm:∀i,0<=m.mem i/\m.mem i<=255)(k o j c:Nat)(hk:k+j<=m.size)(ho:0<j->o=k):(convert 74 9 (.slice (some ⟨mb,o,none⟩) j c)).run Tryz.prog w=.ok (.string (ref.memD m.mem k j)) w:=by
 have:=run_convert_bytes_back (P:=Tryz.prog) w 74 9 5 ⟨mb,o,none⟩ c ((List.range j).map fun i=>UInt8.ofNat (m.mem (k+i)).toNat) Tryz.underlying74 Tryz.underlying5 Tryz.underlying9 (by
  intro i hi
  simp at hi
  obtain rfl:=ho oM
  have e:(⟨mb,o,none⟩:Addr).add i=⟨mb,o+i,none⟩:=by unfold Addr.add;by_cases z:i=0<;>simp[z]
  rw[e,h.bytes (o+i) oM]
  have:=hm (o+i)
  simp
  omega)
 simpa [ref.memD]using this
theorem copy_p{B b mb:Nat}{m:M}{nx:Int}{vX:Nat->Value}{w:World}(h:PAt B b mb m nx vX w)(hm:m.size<=512)(k o j c:Nat)(s:ByteArray)(hk:k+j<=m.size)(ho:0<j->o=k)(ty:TypeId):
  (Builtin.copy_ #[74,9] ty #[.slice (some ⟨mb,o,none⟩) j c,.string s]).run Tryz.prog w=.ok (goInt (s.extract 0 (min s.size j)).size) (w.setCells mb k (ref.strCells (s.extract 0 (min s.size j)))):=by
 have hz:∀w,(Go.sizeOf 5).run Tryz.prog w=.ok 1 w:=fun w=>by kernel_rfl
 have tsz:(s.extract 0 (min s.size j)).size=min s.size j:=by simp
 have nil:∀t:ByteArray,t.size=0->ref.strCells t=[]:=fun t ht=>List.eq_nil_of_length_eq_zero (by rw[ref.strCells_len];exact ht)
 have mv:∀t:ByteArray,t.size<=j->w.setCells mb o (ref.strCells t)=w.setCells mb k (ref.strCells t):=fun t ht=>by
  by_cases e:j=0
  ·rw[nil t oM];rfl
  ·rw[ho oM]
 rw[<-mv _ oM]
 by_cases c1:s.size<=j
 ·rw[Nat.min_eq_left c1,ref.ext_all]
  exact run_copy_string (P:=Tryz.prog) w 74 9 ty 5 mb o j c s Tryz.underlying74 hz c1 (fun i hi=>by rw[ho oM,h.bytes (k+i) oM];rfl) (fun i hi=>h.freem _)
 ·rw[Nat.min_eq_right oM]at tsz ⊢
  rw[tsz]
  exact run_copy_string_cut w 74 9 ty 5 mb o j c s Tryz.underlying74 hz oM (fun i hi=>by rw[ho oM,h.bytes (k+i) oM];rfl) (fun i hi=>h.freem _)
theorem span_fa{B b mb:Nat}{m:M}{nx:Int}{vX:Nat->Value}{w:World}(h:PAt B b mb m nx vX w)(hf:Fine m)(hl:lies m (m.regs 11) (m.regs 12)=false):Calls Tryz.prog 171 #[.pointer (some ⟨b,0,none⟩)] w fun e w'=>e=.returned (.tuple #[.slice none 0 0,.bool false])/\ref.Touch [] w w':=by
 have c11:w.cell? ⟨b,11,none⟩=some (.int .u32 (m.regs 11)):=h.reg 11 dC
 have c12:w.cell? ⟨b,12,none⟩=some (.int .u32 (m.regs 12)):=h.reg 12 dC
 have cda:=h.data
 have p0:=(hf.regs 11).1
 have p1:=(hf.regs 11).2
 have n0:=(hf.regs 12).1
 have n1:=(hf.regs 12).2
 have z1:=hf.size
 have hl2:decide (m.regs 11+m.regs 12<=(m.size:Int))=false:=hl
 clear h hf
 go_enter Tryz.func171,Tryz.ntmps171
 go_wp2_with fail
 go_region
 go_wp2_with (first|(go_at_call 43;refine(lies_any (m.regs 11) (m.regs 12) (m.size:Int) p0 p1 n0 n1 _).mono ?_;rintro e w' ⟨rfl,hw'⟩;subst w'))
 go_ret2
 exact⟨rfl,(ref.Touch.refl _ _).drew⟩
theorem span_y{B b mb:Nat}{m:M}{nx:Int}{vX:Nat->Value}{w:World}(h:PAt B b mb m nx vX w)(hf:Fine m)(k j:Nat)(hk:m.regs 11=k)(hj:m.regs 12=j)(hkj:k+j<=m.size)(hks:¬m.size=k):Calls Tryz.prog 171 #[.pointer (some ⟨b,0,none⟩)] w fun e w'=>e=.returned (.tuple #[.slice (some ⟨mb,k,none⟩) j (m.size-k),.bool true])/\ref.Touch [] w w':=by
 have c11:w.cell? ⟨b,11,none⟩=some (.int .u32 (m.regs 11)):=h.reg 11 dC
 have c12:w.cell? ⟨b,12,none⟩=some (.int .u32 (m.regs 12)):=h.reg 12 dC
 have cda:=h.data
 have p0:=(hf.regs 11).1
 have p1:=(hf.regs 11).2
 have n0:=(hf.regs 12).1
 have n1:=(hf.regs 12).2
 have z1:=hf.size
 rw[hk]at c11 p0 p1
 rw[hj]at c12 n0 n1
 have hl2:decide ((k:Int)+(j:Int)<=(m.size:Int))=true:=by simp;omega
 have q3:(k:Int)<=(k:Int)+(j:Int):=by omega
 have q2:(k:Int)+(j:Int)<=(m.size:Int):=by omega
 have q6:IntKind.u64.wrap ((k:Int)+(j:Int))=(k:Int)+(j:Int):=by rw[IntKind.wrap_u64];omega
 have q7:((k:Int)+(j:Int)).toNat-k=j:=by omega
 clear h hf
 go_enter Tryz.func171,Tryz.ntmps171
 go_wp2_with fail
 go_region
 go_wp2_with (first|(go_at_call 43;refine(lies_any (k:Int) (j:Int) (m.size:Int) p0 p1 n0 n1 _).mono ?_;rintro e w' ⟨rfl,hw'⟩;subst w'))
 go_ret2
 exact⟨by simp[q7],(ref.Touch.refl _ _).drew⟩
theorem span_n{B b mb:Nat}{m:M}{nx:Int}{vX:Nat->Value}{w:World}(h:PAt B b mb m nx vX w)(hf:Fine m)(k:Nat)(hk:m.regs 11=k)(hj:m.regs 12=0)(hks:m.size=k):Calls Tryz.prog 171 #[.pointer (some ⟨b,0,none⟩)] w fun e w'=>e=.returned (.tuple #[.slice (some ⟨mb,0,none⟩) 0 0,.bool true])/\ref.Touch [] w w':=by
 have c11:w.cell? ⟨b,11,none⟩=some (.int .u32 (m.regs 11)):=h.reg 11 dC
 have c12:w.cell? ⟨b,12,none⟩=some (.int .u32 (m.regs 12)):=h.reg 12 dC
 have cda:=h.data
 have p0:=(hf.regs 11).1
 have p1:=(hf.regs 11).2
 have n0:=(hf.regs 12).1
 have n1:=(hf.regs 12).2
 have z1:=hf.size
 subst hks
 rw[hk]at c11 p0 p1
 rw[hj]at c12 n0 n1
 have hl2:decide ((m.size:Int)+(0:Int)<=(m.size:Int))=true:=by simp
 have q6:IntKind.u64.wrap (m.size:Int)=(m.size:Int):=by rw[IntKind.wrap_u64];omega
 clear h hf
 go_enter Tryz.func171,Tryz.ntmps171
 go_wp2_with fail
 go_region
 go_wp2_with (first|(go_at_call 43;refine(lies_any (m.size:Int) 0 (m.size:Int) p0 p1 n0 n1 _).mono ?_;rintro e w' ⟨rfl,hw'⟩;subst w'))
 go_ret2
 exact⟨by simp,(ref.Touch.refl _ _).drew⟩
theorem span_ok{B b mb:Nat}{m:M}{nx:Int}{vX:Nat->Value}{w:World}(h:PAt B b mb m nx vX w)(hf:Fine m)(k j:Nat)(hk:m.regs 11=k)(hj:m.regs 12=j)(hkj:k+j<=m.size):Calls Tryz.prog 171 #[.pointer (some ⟨b,0,none⟩)] w fun e w'=>∃o c,e=.returned (.tuple #[.slice (some ⟨mb,o,none⟩) j c,.bool true])/\(0<j->o=k)/\j<=c/\c<=512/\ref.Touch [] w w':=by
 have z1:=hf.size
 by_cases hks:m.size=k
 ·obtain rfl:j=0:=by omega
  refine(span_n h hf k hk hj hks).mono ?_
  rintro e w' ⟨rfl,ht⟩
  exact⟨0,0,rfl,by omega,by omega,by omega,ht⟩
 ·refine(span_y h hf k j hk hj hkj hks).mono ?_
  rintro e w' ⟨rfl,ht⟩
  exact⟨k,m.size-k,rfl,fun _=>rfl,by omega,by omega,ht⟩
theorem ansB_any{B E b mb sb:Nat}{m:M}{nx:Int}{vE vA:Value}{w:World}(h:PW B E b mb sb m nx vE vA w)(hz:0<m.size)(hsz:m.evs.length<=2000)(c:Int)(o:Option Addr)(j ca:Nat)(hj:j<=512)(d:ByteArray)(cv:(convert 74 9 (.slice o j ca)).run Tryz.prog w=.ok (.string d) w):
  Calls Tryz.prog 172 #[.pointer (some ⟨b,0,none⟩),.int .u32 c,.slice o j ca] w fun e w'=>e=.returned (.tuple #[])/\∃vE',PW B E b mb sb (setReg {m with evs:=m.evs++[⟨c,(j:Int),d⟩] } 10 j) nx vE' vA w'/\ref.Touch (b::ref.sblk vE) w w':=by
 have HH:Hid (PW B E b mb sb m nx vE vA w):=h
 have q1:IntKind.u32.wrap (j:Int)=(j:Int):=by rw[IntKind.wrap_u32];omega
 clear h
 go_enter Tryz.func172,Tryz.ntmps172
 go_wp2_with (first|(go_at_call 175;refine(Calls.mono (tell_any HH.out hz hsz c (j:Int) d) ?_);rintro e w1 ⟨rfl,vE1,hp1,ht1⟩;have H1:Hid (PW B E b mb sb {m with evs:=m.evs++[⟨c,(j:Int),d⟩] } nx vE1 vA w1):=hp1;have T1:Hid (ref.Touch (b::ref.sblk vE) w w1):=ht1;clear hp1 ht1)|(go_at_call 144;refine(Calls.mono (set_any H1.out.p 10 (j:Int) dC dC) ?_);rintro e w2 ⟨rfl,hp2,ht2⟩;have H2:Hid (PW B E b mb sb (setReg {m with evs:=m.evs++[⟨c,(j:Int),d⟩] } 10 j) nx vE1 vA w2):=H1.out.step hp2 (ht2.mono sP) rfl rfl rfl rfl rfl;have T2:Hid (ref.Touch [b] w1 w2):=ht2;clear hp2 ht2))
 go_end0
 exact⟨rfl,_,H2.out,T1.out.trans (T2.out.mono sP)⟩
theorem nextA_nil{B E b mb sb:Nat}{m:M}{nx:Int}{vE vA:Value}{w:World}(h:PW B E b mb sb m nx vE vA w)(ha:m.ans=[]):Calls Tryz.prog 173 #[.pointer (some ⟨b,0,none⟩)] w fun e w'=>e=.returned (.string ⟨#[]⟩)/\w'=w:=by
 obtain⟨oa,cap,hv,hl1,hl2,hl3,hcs,hsz2⟩:=h.ans
 rw[ha]at hv
 have cA:w.cell? ⟨b,37,none⟩=some (.slice oa 0 cap):=h.cA.trans (by rw[hv];rfl)
 clear h hv hcs hsz2
 go_enter Tryz.func173,Tryz.ntmps173
 go_wp2
 go_ret
 exact⟨rfl,rfl⟩
theorem pw_ans{B E b mb sb:Nat}{m:M}{nx:Int}{vE vA:Value}{w:World}(h:PW B E b mb sb m nx vE vA w)(l:List ByteArray)(v:Value)(ha:ref.AnsAt B l v w):PW B E b mb sb {m with ans:=l } nx vE v (w.setCell ⟨b,37,none⟩ v):=by
 have t:ref.Touch [b] w (w.setCell ⟨b,37,none⟩ v):=(ref.Touch.refl _ _).setCell sP _
 have hbel:Below B w (w.setCell ⟨b,37,none⟩ v):=t.below h.bs Xd1
 exact⟨at_ans h l v,h.be,Nat.le_trans h.eh t.size,ref.own_touch h.evs t (fun k hk=>by simpa using(h.dE k hk).1),ha.below hbel,h.dE,(h.c.touch t sP).congr rfl rfl rfl,h.hsb,Nat.lt_of_lt_of_le h.ls t.size⟩
theorem nextA_cons{B E b mb sb:Nat}{m:M}{nx:Int}{vE vA:Value}{w:World}(h:PW B E b mb sb m nx vE vA w)(s:ByteArray)(rest:List ByteArray)(ha:m.ans=s::rest):Calls Tryz.prog 173 #[.pointer (some ⟨b,0,none⟩)] w fun e w'=>e=.returned (.string s)/\∃vA',PW B E b mb sb {m with ans:=rest } nx vE vA' w'/\ref.Touch [b] w w':=by
 have hA:=h.ans
 obtain⟨oa,cap,hv,hl1,hl2,hl3,hcs,hsz2⟩:=h.ans
 rw[ha]at hv hl1 hl2 hcs hsz2
 obtain⟨ad,had,hadb,hadc⟩:=hcs 0 s sP
 subst had
 have e0:ad.add 0=ad:=rfl
 rw[e0]at hadc
 have cA:w.cell? ⟨b,37,none⟩=some (.slice (some ad) (rest.length+1) cap):=h.cA.trans (by rw[hv];rfl)
 have fA:=h.p.free 37
 have lr:rest.length<4096:=by simp at hl2;omega
 have lc:rest.length+1<=cap:=by simpa using hl1
 have hA2:ref.AnsAt B rest (.slice (if cap=1 then some ad else some (ad.add 1)) rest.length (cap-1)) w:=ref.AnsAt.tail (s:=s) (by rw[ha,hv]at hA;exact hA)
 by_cases hcap:cap=1
 ·subst hcap
  have hr0:rest=[]:=List.eq_nil_of_length_eq_zero oM
  subst hr0
  rw[if_pos rfl]at hA2
  have HP:Hid (PW B E b mb sb {m with ans:=[] } nx vE (.slice (some ad) 0 0) (w.setCell ⟨b,37,none⟩ (.slice (some ad) 0 0))):=pw_ans h [] _ hA2
  clear h hA hv hcs hsz2 hA2
  exact Xd0
 ·rw[if_neg hcap]at hA2
  have HP:Hid (PW B E b mb sb {m with ans:=rest } nx vE (.slice (some ⟨ad.block,ad.off+1,none⟩) rest.length (cap-1)) (w.setCell ⟨b,37,none⟩ (.slice (some ⟨ad.block,ad.off+1,none⟩) rest.length (cap-1)))):=pw_ans h rest _ hA2
  clear h hA hv hcs hsz2 hA2
  exact Xd0
end prog
end Go.Proofs.YtjikimpejlmdiaaGreatDoor

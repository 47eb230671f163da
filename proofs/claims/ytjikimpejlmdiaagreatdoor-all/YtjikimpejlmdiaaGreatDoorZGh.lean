import Derived.Test.YtjikimpejlmdiaaGreatDoorZRefQ
import Derived.Deep.AppendLies
import Derived.OwnWalk
import Derived.Deep.RegionHeld3
import Derived.Deep.DrawnRows
import Derived.Laws.IdiomStrings
import Derived.Lib.LazyBuf
set_option maxHeartbeats 4000000
set_option linter.unusedVariables false
set_option linter.unusedSimpArgs false
set_option maxRecDepth 10000
namespace Go.Proofs.YtjikimpejlmdiaaGreatDoor
theorem X80{p:Prop}(h:p:=by intro i hi;simp at hi;subst hi;exact h.ref.hb):p:=h
namespace ref
open ChangeShapes WideShapes ChangeAt RowKit nums dnums mach
def evCells (l:List Ev):List Value:=l.flatMap fun e=>[.int .u32 e.call,.int .u32 e.result,.string e.data]
def blkCells (l:List Blk):List Value:=l.flatMap fun k=>[.int .u32 k.pc,.int .i64 k.len,.int .i64 k.built,.int .i64 k.entered]
theorem setReg_ev(m:M)(r v:Int):(setReg m r v).evs=m.evs/\(setReg m r v).ans=m.ans/\(setReg m r v).blocks=m.blocks:=by unfold setReg;by_cases e:r=0<;>simp[e]
theorem evCells_add(l:List Ev)(c r:Int)(d:ByteArray):evCells (l++[⟨c,r,d⟩])=evCells l++[.int .u32 c,.int .u32 r,.string d]:=by simp[evCells]
def AnsAt (B:Nat) (l:List ByteArray) (vA:Value) (w:World):Prop:=
 ∃oa cap,vA=.slice oa l.length cap/\l.length<=cap/\l.length<=4096/\cap<=maxLen/\(∀k s,l[k]?=some s->∃ad,oa=some ad/\ad.block<B/\w.cell? (ad.add k)=some (.string s))/\∀s,s∈l->s.size<=1048576
theorem AnsAt.below {B:Nat}{l:List ByteArray}{vA:Value}{w w':World}(h:AnsAt B l vA w)(hb:Below B w w'):AnsAt B l vA w':=by
 obtain⟨oa,cap,h1,h2,h3,h3b,h4,h5⟩:=h
 refine⟨oa,cap,h1,h2,h3,h3b,fun k s hk=> ?_,h5⟩
 obtain⟨ad,g1,g2,g3⟩:=h4 k s hk
 refine⟨ad,g1,g2, ?_⟩
 have e:(ad.add k).block=ad.block:=by unfold Addr.add;by_cases z:k=0<;>simp[z]
 rw[World.cell?_of_block (w:=w) (hb.block (ad.add k).block oM)];exact g3
theorem AnsAt.mono2 {B B':Nat}{l:List ByteArray}{vA:Value}{w w':World}(h:AnsAt B l vA w)(t:Touch [] w w')(hB:B<=B':=by simp):AnsAt B' l vA w':=by
 obtain⟨oa,cap,h1,h2,h3,h3b,h4,h5⟩:=h
 refine⟨oa,cap,h1,h2,h3,h3b,fun k s hk=> ?_,h5⟩
 obtain⟨ad,g1,g2,g3⟩:=h4 k s hk
 exact⟨ad,g1,by omega,(t.cell (World.block_lt_of_cell? _ _ g3) sP).trans g3⟩
structure Whole (B b mb:Nat) (m:M) (vE vA vS vB:Value) (w:World):Prop where
 ref:RefAt B b mb m vE vA vS vB w
 slots:SlotsAt b mb m vS w
 evs:w.ownsRow B 52 3 vE m.evs.length (evCells m.evs)
 ans:AnsAt B m.ans vA w
 blks:w.ownsRow B 44 4 vB m.blocks.length (blkCells m.blocks)
 dE:∀k,k∈sblk vE->k≠b/\k≠mb/\k∉sblk vS/\k∉sblk vB
 dB:∀k,k∈sblk vB->k≠b/\k≠mb/\k∉sblk vS
 bS:∀k,k∈sblk vS->B<=k
theorem own_touch{w w':World}{base e size n:Nat}{v:Value}{xs:List Value}{S:List Nat}(h:w.ownsRow base e size v n xs)(t:Touch S w w')(d:∀k,k∈sblk v->k∉S):w'.ownsRow base e size v n xs:=by
 refine⟨h.1, ?_⟩
 rcases h.2 with hn|⟨g,cap,cur,rfl,hb,hgg,rest⟩
 ·exact .inl hn
 ·refine .inr ⟨g,cap,cur,rfl,hb, ?_,rest⟩
  rw[t.block g (Array.getElem?_eq_some_iff.1 hgg).1 (d g (by simp[sblk]))]
  exact hgg
theorem touch_grown{w w':World}{v:Value}(h:w.grownBy w' v.ownBlock):Touch (sblk v) w w':=by
 refine⟨h.os,h.tape,h.output,h.size,fun k hk hn=>h.block k hk (fun e=>hn ?_)⟩
 cases v with
 |slice a n c=>
  cases a with
  |none=>simp[Value.ownBlock]at e
  |some a=>simp[Value.ownBlock]at e;simp[sblk,e]
 |_=>simp[Value.ownBlock]at e
theorem sblk_own{v:Value}{k:Nat}:k∈sblk v ↔ v.ownBlock=some k:=by
 cases v with
 |slice a n c=>
  cases a with
  |none=>simp[Value.ownBlock,sblk]
  |some a=>simp[Value.ownBlock,sblk];exact eq_comm
 |_=>simp[Value.ownBlock,sblk]
theorem own_lt{w:World}{base e size n:Nat}{v:Value}{xs:List Value}(h:w.ownsRow base e size v n xs):∀k,k∈sblk v->base<=k/\k<w.heap.size:=fun k hk=>h.lt k (sblk_own.1 hk)
theorem SlotsAt.lt {b mb:Nat}{m:M}{vS:Value}{w:World}(h:SlotsAt b mb m vS w):∀k,k∈sblk vS->k<w.heap.size:=by
 intro k hk
 rcases h with⟨h1,h2⟩|⟨h1,h2,h3,sb,h4,h5,h6,h7⟩
 ·subst h2;simp[sblk]at hk
 ·subst h4;simp[sblk]at hk;subst hk;exact World.block_lt_of_cell? _ _ (h7.pcs 0 h1)
theorem SlotsAt.apart {b mb:Nat}{m:M}{vS:Value}{w:World}(h:SlotsAt b mb m vS w):∀k,k∈sblk vS->k≠b/\k≠mb:=by
 intro k hk
 rcases h with⟨h1,h2⟩|⟨h1,h2,h3,sb,h4,h5,h6,h7⟩
 ·subst h2;simp[sblk]at hk
 ·subst h4;simp[sblk]at hk;subst hk;exact⟨fun e=>h5 e.symm,fun e=>h6 e.symm⟩
theorem SlotsAt.far {b mb:Nat}{m m':M}{vS:Value}{w w':World}{S:List Nat}(h:SlotsAt b mb m vS w)(t:Touch S w w')(d:∀k,k∈sblk vS->k∉S)(e1:m'.nslots=m.nslots)(e2:m'.slots=m.slots):SlotsAt b mb m' vS w':=by
 rcases h with⟨h1,h2⟩|⟨h1,h2,h3,sb,h4,h5,h6,h7⟩
 ·exact Or.inl ⟨e1.trans h1,h2⟩
 ·subst h4
  refine Or.inr ⟨by omega,by omega,by rw[e2];exact h3,sb,by rw[e1],h5,h6, ?_⟩
  rw[e1,e2]
  exact h7.other h1 t (d sb (by simp[sblk]))
theorem Whole.step {B b mb:Nat}{m m':M}{vE vA vS vB:Value}{w w':World}(h:Whole B b mb m vE vA vS vB w)(hr:RefAt B b mb m' vE vA vS vB w')(hs:SlotsAt b mb m' vS w')(t:Touch (b::mb::sblk vS) w w')(e1:m'.evs=m.evs)(e2:m'.ans=m.ans)(e3:m'.blocks=m.blocks):
  Whole B b mb m' vE vA vS vB w'/\Below B w w':=by
 have hlt:B<=w.heap.size:=Nat.le_of_lt (Nat.lt_of_le_of_lt h.ref.hb (World.block_lt_of_cell? _ _ h.ref.data))
 have hbel:Below B w w':=t.below hlt (by
  intro i hi
  simp at hi
  rcases hi with rfl|rfl|hi
  ·exact h.ref.hb
  ·exact h.ref.hmb
  ·exact h.bS i hi)
 refine⟨⟨hr,hs, ?_, ?_, ?_,h.dE,h.dB,h.bS⟩,hbel⟩
 ·rw[e1];exact own_touch h.evs t (fun k hk=>by have:=h.dE k hk;simp[this.1,this.2.1,this.2.2.1])
 ·rw[e2];exact h.ans.below hbel
 ·rw[e3];exact own_touch h.blks t (fun k hk=>by have:=h.dB k hk;simp[this.1,this.2.1,this.2.2])
theorem at_evs{B b mb:Nat}{m:M}{vE vA vS vB:Value}{w:World}(h:RefAt B b mb m vE vA vS vB w)(l:List Ev)(v:Value):RefAt B b mb {m with evs:=l } v vA vS vB (w.setCell ⟨b,36,none⟩ v):=
 h.upd (m':={m with evs:=l }) (vE':=v) (vA':=vA) (vS':=vS) (vB':=vB) 36 dC dC _ rfl rfl (fun i hi h39=>Or.elim (Decidable.em (i=36)) (fun e=>by subst e;simp[lay]) (fun e=>by simp[lay,e]))
theorem at_steps{B b mb:Nat}{m:M}{vE vA vS vB:Value}{w:World}(h:RefAt B b mb m vE vA vS vB w):RefAt B b mb {m with steps:=m.steps+1 } vE vA vS vB (w.setCell ⟨b,37,none⟩ (.int .i64 (m.steps+1))):=
 h.upd (m':={m with steps:=m.steps+1 }) (vE':=vE) (vA':=vA) (vS':=vS) (vB':=vB) 37 dC dC _ rfl rfl (fun i hi h39=>Or.elim (Decidable.em (i=37)) (fun e=>by subst e;simp[lay]) (fun e=>by simp[lay,e]))
theorem at_ans{B b mb:Nat}{m:M}{vE vA vS vB:Value}{w:World}(h:RefAt B b mb m vE vA vS vB w)(l:List ByteArray)(v:Value):RefAt B b mb {m with ans:=l } vE v vS vB (w.setCell ⟨b,41,none⟩ v):=
 h.upd (m':={m with ans:=l }) (vE':=vE) (vA':=v) (vS':=vS) (vB':=vB) 41 dC dC _ rfl rfl (fun i hi h39=>Or.elim (Decidable.em (i=41)) (fun e=>by subst e;simp[lay]) (fun e=>by simp[lay,e]))
theorem info_ev:(Tryz.prog.info? 52).map (fun i=>(i.zero,i.size,i.bytes))=some (some (.agg #[.int .u32 0,.int .u32 0,.string ByteArray.empty]),3,24):=by kernel_rfl
theorem grown_ev{B b mb:Nat}{m:M}{vE vA vS vB:Value}{w w1:World}{o:Obj}{g:Nat}(h:Whole B b mb m vE vA vS vB w)(hz:0<m.size)(hgrow:(w.alloc o).grownBy w1 vE.ownBlock)(hat:vE.ownBlock=some g\/g=w.heap.size+1):
  RefAt B b mb m vE vA vS vB w1/\Touch (sblk vE) w w1/\SlotsAt b mb m vS w1/\w1.ownsRow B 44 4 vB m.blocks.length (blkCells m.blocks)/\(g≠b/\g≠mb/\g∉sblk vS/\g∉sblk vB)/\Below B w w1:=by
 have ht:Touch (sblk vE) w w1:=((Touch.refl _ _).alloc _).trans (touch_grown hgrow)
 have lb:b<w.heap.size:=World.block_lt_of_cell? _ _ h.ref.data
 have lm:mb<w.heap.size:=World.block_lt_of_cell? _ _ (h.ref.bytes 0 hz)
 refine⟨h.ref.other ht (fun hc=>(h.dE b hc).1 rfl) (fun hc=>(h.dE mb hc).2.1 rfl) hz,ht,h.slots.far ht (fun k hk hc=>(h.dE k hc).2.2.1 hk) rfl rfl,own_touch h.blks ht (fun k hk hc=>(h.dE k hc).2.2.2 hk), ?_, ?_⟩
 ·rcases hat with hat|hat
  ·exact h.dE g (sblk_own.2 hat)
  ·subst hat
   exact⟨by omega,by omega,fun hc=>by have:=h.slots.lt _ hc;omega,fun hc=>by have:=(own_lt h.blks _ hc).2;omega⟩
 ·exact ht.below (Nat.le_trans h.ref.hb (Nat.le_of_lt lb)) (fun k hk=>(own_lt h.evs k hk).1)
theorem whole_ev{B b mb:Nat}{m m2:M}{vE vA vS vB:Value}{w w1 w2:World}{g cap:Nat}{ev:Ev}(h:Whole B b mb m vE vA vS vB w)(hs:SlotsAt b mb m vS w1)(hk:w1.ownsRow B 44 4 vB m.blocks.length (blkCells m.blocks))(hd:g≠b/\g≠mb/\g∉sblk vS/\g∉sblk vB)(hbel:Below B w w1)
  (ho:w1.ownsRow B 52 3 (.slice (some ⟨g,0,none⟩) (m.evs.length+1) cap) (m.evs.length+1) (evCells m.evs++[Value.int .u32 ev.call,Value.int .u32 ev.result,Value.string ev.data]))
  (hr:RefAt B b mb m2 (.slice (some ⟨g,0,none⟩) (m.evs.length+1) cap) vA vS vB w2) (t:Touch [b] w1 w2) (e1:m2.evs=m.evs++[ev]) (e2:m2.ans=m.ans) (e3:m2.blocks=m.blocks) (e4:m2.nslots=m.nslots) (e5:m2.slots=m.slots):
  Whole B b mb m2 (.slice (some ⟨g,0,none⟩) (m.evs.length+1) cap) vA vS vB w2/\Below B w w2:=by
 have hb2:Below B w w2:=hbel.trans (t.below (Nat.le_trans (Nat.le_trans h.ref.hb (Nat.le_of_lt (World.block_lt_of_cell? _ _ h.ref.data))) hbel.size) X80)
 refine⟨⟨hr,hs.far t (fun k hk=>by simpa using(hs.apart k hk).1) e4 e5, ?_, ?_, ?_, ?_,h.dB,h.bS⟩,hb2⟩
 ·rw[e1]
  have:=own_touch ho t (by simp[sblk];exact hd.1)
  rw[List.length_append]
  rw[show evCells (m.evs++[ev])=evCells m.evs++[Value.int .u32 ev.call,Value.int .u32 ev.result,Value.string ev.data]from evCells_add _ _ _ _]
  exact this
 ·rw[e2];exact h.ans.below hb2
 ·rw[e3];exact own_touch hk t (fun k hk2=>by simpa using(h.dB k hk2).1)
 ·intro k hk2
  simp[sblk]at hk2
  subst hk2
  exact hd
end ref
namespace ref
open ChangeShapes WideShapes ChangeAt RowKit nums dnums mach
attribute [local go_sem ↓] Go.wp_at_zero Go.wp_at_succ
theorem call_93{B b mb:Nat}{m:M}{vE vA vS vB:Value}{w:World}(h:Whole B b mb m vE vA vS vB w)(hz:0<m.size)(hf:Fine m)(hlt:m.steps<m.fuel)(hev:m.evs.length<=m.steps)(k1:m.regs 17=93):
  Calls Tryz.prog 81 #[.pointer (some ⟨b,0,none⟩)] w fun e w'=>e=.returned (.tuple #[])/\∃vE' vA',Whole B b mb (stop {m with evs:=m.evs++[⟨93,m.regs 10,ByteArray.empty⟩],steps:=m.steps+1 } 1) vE' vA' vS vB w'/\Below B w w':=by
 have HH:Hid (Whole B b mb m vE vA vS vB w):=h
 have HF:Hid (Fine m):=hf
 obtain⟨i0,hi,hz0,hz1,hz2⟩:=info_parts info_ev
 have hsz:m.evs.length<=2000:=by have:=hf.fuel.2;omega
 have lb:b<w.heap.size:=World.block_lt_of_cell? _ _ h.ref.data
 have HBs:Hid (B<=w.heap.size+1):=(by have:=h.ref.hb;omega:B<=w.heap.size+1)
 have c10:w.cell? ⟨b,12,none⟩=some (.int .u32 (m.regs 10)):=h.ref.reg 10 dC
 have c11:w.cell? ⟨b,13,none⟩=some (.int .u32 (m.regs 11)):=h.ref.reg 11 dC
 have c12:w.cell? ⟨b,14,none⟩=some (.int .u32 (m.regs 12)):=h.ref.reg 12 dC
 have c17:w.cell? ⟨b,19,none⟩=some (.int .u32 (m.regs 17)):=h.ref.reg 17 dC
 have c36:w.cell? ⟨b,36,none⟩=some vE:=h.ref.cells 36 dC dC
 have cda:=h.ref.data
 have p0:=(hf.regs 11).1
 have p1:=(hf.regs 11).2
 have n0:=(hf.regs 12).1
 have n1:=(hf.regs 12).2
 have s0:=(hf.regs 10).1
 have s1:=(hf.regs 10).2
 have z1:=hf.size
 have st0:=hf.steps
 have st1:m.steps<2000:=by have:=hf.fuel.2;omega
 clear h hf
 go_enter Tryz.func81,Tryz.ntmps81
 go_wp2_with (first|(go_at_call 51;refine(lies_any HH.out.ref (m.regs 11) (m.regs 12) p0 p1 n0 n1 HF.out.size).mono ?_;rintro e w' ⟨rfl,hw'⟩;subst w')|(at_builtin;refine wpList_append_lies _ rF _ _ _ rF B 52 i0 _ 3 24 Tryz.underlying30 hi hz0 hz1 hz2 rF dC vE m.evs.length (evCells m.evs) rF (HH.out.evs.alloc _) ⟨w.heap.size,0,none⟩ 1 1 [Value.int .u32 93,Value.int .u32 (m.regs 10),Value.string ⟨#[]⟩] rF rF (World.news_of_block (heap_alloc_new w _)) oC dC mL oM (by simpa using HBs.out) (w.heap.size+1) sP ?_;intro g cap w1 hown hgrow hat hlt2;obtain⟨hr,ht,hs,hk,hd,hbel⟩:=grown_ev HH.out hz hgrow hat;have HR:Hid (RefAt B b mb m vE vA vS vB w1):=hr;have HS:Hid (SlotsAt b mb m vS w1):=hs;have HK:Hid (w1.ownsRow B 44 4 vB m.blocks.length (blkCells m.blocks)):=hk;have HD:Hid (g≠b/\g≠mb/\g∉sblk vS/\g∉sblk vB):=hd;have HB:Hid (Below B w w1):=hbel;have HO:Hid (w1.ownsRow B 52 3 (.slice (some ⟨g,0,none⟩) (m.evs.length+1) cap) (m.evs.length+1) (evCells m.evs++[Value.int .u32 93,Value.int .u32 (m.regs 10),Value.string ⟨#[]⟩])):=hown;have d36:w1.cell? ⟨b,36,none⟩=some vE:=hr.cells 36 dC dC;have f36:=hr.free 36;have d37:w1.cell? ⟨b,37,none⟩=some (.int .i64 m.steps):=hr.cells 37 dC dC;have f37:=hr.free 37;clear hr ht hs hk hd hbel hown hgrow hat hlt2)|(go_at_call 50;refine(@stop_any B b mb {m with evs:=m.evs++[⟨93,m.regs 10,ByteArray.empty⟩],steps:=m.steps+1 } _ vA vS vB _ (@at_steps B b mb {m with evs:=m.evs++[⟨93,m.regs 10,ByteArray.empty⟩] } _ vA vS vB _ (at_evs HR.out _ _)) 1).mono ?_;rintro e w2 ⟨rfl,hat,hto⟩;have HA:Hid (RefAt B b mb (stop {m with evs:=m.evs++[⟨93,m.regs 10,ByteArray.empty⟩],steps:=m.steps+1 } 1) _ vA vS vB w2):=hat;have HT:Hid (Touch [b] w1 w2):=(((Touch.refl _ _).setCell sP _).setCell sP _).trans hto;clear hat hto))
 go_end0
 obtain⟨g1,g2⟩:=whole_ev (ev:=⟨93,m.regs 10,ByteArray.empty⟩) HH.out HS.out HK.out HD.out HB.out HO.out HA.out HT.out rfl rfl rfl rfl rfl
 exact⟨rfl,_,_,g1,g2⟩
end ref
namespace ref
open ChangeShapes WideShapes ChangeAt RowKit nums dnums mach
def strCells (t:ByteArray):List Value:=t.data.toList.map fun x=>Value.int .u8 (x.toNat:Int)
theorem strCells_len(t:ByteArray):(strCells t).length=t.size:=by simp[strCells]
theorem RefAt.puts {B b mb:Nat}{m:M}{vE vA vS vB:Value}{w:World}(h:RefAt B b mb m vE vA vS vB w)(k:Nat)(t:ByteArray)(hk:k+t.size<=m.size):RefAt B b mb {m with mem:=put m.mem k t } vE vA vS vB (w.setCells mb k (strCells t)):=by
 have ne:=h.ne
 refine⟨h.hb,h.hmb,h.ne,fun i hi h39=> ?_, ?_,fun i=> ?_,fun i hi=> ?_,fun i=> ?_⟩
 ·rw[World.cell?_setCells_out _ _ _ _ _ (fun e=>absurd e ne)];exact h.cells i hi h39
 ·rw[World.cell?_setCells_out _ _ _ _ _ (fun e=>absurd e ne)];exact h.data
 ·rw[World.frozen?_setCells];exact h.free i
 ·by_cases e:k<=i/\i<k+t.size
  ·have hj:i-k<(strCells t).length:=by rw[strCells_len];omega
   have:=World.cell?_setCells_in mb (strCells t) k w (fun j hj=>by rw[strCells_len]at hj;rw[h.bytes (k+j) oM];rfl) (i-k) hj
   rw[show k+(i-k)=i by omega]at this
   rw[this]
   show some (strCells t)[i-k]=some (Value.int .u8 (put m.mem k t i))
   have e2:put m.mem k t i=((t.data.getD (i-k) 0).toNat:Int):=if_pos e
   rw[e2]
   have hs:i-k<t.data.size:=by have:t.size=t.data.size:=rfl;omega
   have hs2:i-k<t.size:=hs
   simp[strCells,Array.getD,hs2]
  ·rw[World.cell?_setCells_out _ _ _ _ _ (fun _ _=>by rw[strCells_len];show i<k\/k+t.size<=i;omega)]
   show _=some (Value.int .u8 (put m.mem k t i))
   have e2:put m.mem k t i=m.mem i:=if_neg e
   rw[e2];exact h.bytes i hi
 ·rw[World.frozen?_setCells];exact h.freem i
theorem wrote_ev(m:M)(a n:Int):(wrote m a n).evs=m.evs/\(wrote m a n).ans=m.ans/\(wrote m a n).blocks=m.blocks:=by unfold wrote;by_cases e:n=0<;>simp[e]
theorem touch_setCells{S:List Nat}{b:Nat}(hb:b∈S):∀(vs:List Value) (o:Nat) (u w:World),Touch S u w->Touch S u (w.setCells b o vs)
 |[],_,_,_,h=>h
 |v::r,o,u,w,h=>touch_setCells hb r (o+1) u _ (h.setCell hb v)
theorem copy_run{B b mb:Nat}{m:M}{vE vA vS vB:Value}{w:World}(h:RefAt B b mb m vE vA vS vB w)(hm:m.size<=512)(k o' j c:Nat)(t:ByteArray)(hk:k+t.size<=m.size)(ho:0<t.size->o'=k)(hj:t.size<=j)(ty:TypeId):
  (Builtin.copy_ #[74,9] ty #[.slice (some ⟨mb,o',none⟩) j c,.string t]).run Tryz.prog w=.ok (goInt t.size) (w.setCells mb k (strCells t)):=by
 have hz:∀w,(Go.sizeOf 5).run Tryz.prog w=.ok 1 w:=fun w=>by kernel_rfl
 by_cases e:t.size=0
 ·have h1:=run_copy_string (P:=Tryz.prog) w 74 9 ty 5 mb o' j c t Tryz.underlying74 hz oM (fun i hi=>by omega) (fun i hi=>by omega)
  rw[h1]
  have e2:strCells t=[]:=List.eq_nil_of_length_eq_zero (by rw[strCells_len];exact e)
  show Result.ok _ (w.setCells mb o' (strCells t))=_
  rw[e2];rfl
 ·obtain rfl:=ho oM
  exact run_copy_string (P:=Tryz.prog) w 74 9 ty 5 mb o' j c t Tryz.underlying74 hz oM (fun i hi=>by rw[h.bytes (o'+i) oM];rfl) (fun i hi=>h.freem _)
theorem whole_ans{B b mb:Nat}{m:M}{vE vA vS vB:Value}{w:World}(h:Whole B b mb m vE vA vS vB w)(l:List ByteArray)(v:Value)(ha:AnsAt B l v w):Whole B b mb {m with ans:=l } vE v vS vB (w.setCell ⟨b,41,none⟩ v):=by
 have t:Touch [b] w (w.setCell ⟨b,41,none⟩ v):=(Touch.refl _ _).setCell sP _
 have hlt:B<=w.heap.size:=Nat.le_of_lt (Nat.lt_of_le_of_lt h.ref.hb (World.block_lt_of_cell? _ _ h.ref.data))
 have hbel:Below B w (w.setCell ⟨b,41,none⟩ v):=t.below hlt X80
 exact⟨at_ans h.ref l v,h.slots.far t (fun k hk=>by simpa using(h.slots.apart k hk).1) rfl rfl,own_touch h.evs t (fun k hk=>by simpa using(h.dE k hk).1),ha.below hbel,own_touch h.blks t (fun k hk=>by simpa using(h.dB k hk).1),h.dE,h.dB,h.bS⟩
theorem addr_add_add(ad:Addr)(k:Nat):(ad.add 1).add k=ad.add (1+k):=by
 unfold Addr.add
 by_cases z:k=0
 ·subst z;simp
 ·simp[z];omega
theorem AnsAt.tail {B:Nat}{l:List ByteArray}{s:ByteArray}{ad:Addr}{cap:Nat}{w:World}(h:AnsAt B (s::l) (.slice (some ad) (l.length+1) cap) w):AnsAt B l (.slice (if cap=1 then some ad else some (ad.add 1)) l.length (cap-1)) w:=by
 obtain⟨oa,cap',h1,h2,h3,h3b,h4,h5⟩:=h
 injection h1 with e1 e2 e3
 subst e3
 refine⟨_,_,rfl,by simp at h2;omega,by simp at h3;omega,by omega,fun k t hk=> ?_,fun t ht=>h5 t (by simp[ht])⟩
 obtain⟨ad',g1,g2,g3⟩:=h4 (k+1) t (by simpa using hk)
 rw[<-e1]at g1
 injection g1 with g1
 subst g1
 have hl:k<l.length:=(List.getElem?_eq_some_iff.1 hk).1
 have hc:¬cap=1:=by simp at h2;omega
 rw[if_neg hc]
 refine⟨_,rfl, ?_, ?_⟩
 ·unfold Addr.add;simp;exact g2
 ·rw[addr_add_add,show 1+k=k+1 by omega];exact g3
theorem wrote_whole(B b mb:Nat)(m0 m1:M)(vE vA vS vB:Value)(wB w1:World)(t:ByteArray)(k:Nat)(n:Int)(hn:n=t.size)(h:Whole B b mb m0 vE vA vS vB wB)(h1:RefAt B b mb {m0 with mem:=put m0.mem k t } vE vA vS vB w1)(hs:SlotsAt b mb {m0 with mem:=put m0.mem k t } vS w1)(ht:Touch [mb] wB w1)(hm1:m1=wrote {m0 with mem:=put m0.mem k t } k n)
  (hz:0<m0.size) (hz2:m0.size<=512) (hc0:0<=m0.cur.1) (hc1:m0.cur.1<=4294967295) (hk:k+t.size<=m0.size):
  Calls Tryz.prog 105 #[.pointer (some ⟨b,0,none⟩),.int .u32 k,.int .u32 n] w1 fun e w2=>e=.returned (.tuple #[])/\Whole B b mb m1 vE vA vS vB w2/\Below B wB w2:=by
 subst hm1
 refine(wrote_any h1 hs hz hc0 hc1 k n oM oM oM).mono ?_
 rintro e w2 ⟨rfl,hat,hsl,hto⟩
 obtain⟨g1,g2⟩:=Whole.step h hat hsl ((ht.mono sP).trans (hto.mono (by simp;intro i hi;exact Or.inr (Or.inr hi)))) (wrote_ev _ _ _).1 (wrote_ev _ _ _).2.1 (wrote_ev _ _ _).2.2
 exact⟨rfl,g1,g2⟩
end ref
end Go.Proofs.YtjikimpejlmdiaaGreatDoor

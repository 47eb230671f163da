import Derived.Test.YtjikimpejlmdiaaGreatDoorZGh
import Derived.Deep.RegionLaw
import Derived.Deep.Cut
import Derived.Deep.CutRange
set_option maxHeartbeats 4000000
set_option linter.unusedVariables false
set_option linter.unusedSimpArgs false
set_option maxRecDepth 10000
namespace Go.Proofs.YtjikimpejlmdiaaGreatDoor
theorem X90{p:Prop}(h:p:=by show _<=m.size;omega):p:=h
namespace ref
open ChangeShapes WideShapes ChangeAt RowKit nums dnums mach
attribute [local go_sem ↓] Go.wp_at_zero Go.wp_at_succ
def memD (mem:Nat->Int) (k j:Nat):ByteArray:=⟨((List.range j).map fun i=>UInt8.ofNat (mem (k+i)).toNat).toArray⟩
theorem conv_mem{B b mb:Nat}{m:M}{vE vA vS vB:Value}{w:World}(h:RefAt B b mb m vE vA vS vB w)(hm:∀i,0<=m.mem i/\m.mem i<=255)(k j c:Nat)(hk:k+j<=m.size):(convert 74 9 (.slice (some ⟨mb,k,none⟩) j c)).run Tryz.prog w=.ok (.string (memD m.mem k j)) w:=by
 have:=run_convert_bytes_back (P:=Tryz.prog) w 74 9 5 ⟨mb,k,none⟩ c ((List.range j).map fun i=>UInt8.ofNat (m.mem (k+i)).toNat) Tryz.underlying74 Tryz.underlying5 Tryz.underlying9 (by
  intro i hi
  simp at hi
  have e:(⟨mb,k,none⟩:Addr).add i=⟨mb,k+i,none⟩:=by unfold Addr.add;by_cases z:i=0<;>simp[z]
  rw[e,h.bytes (k+i) oM]
  have:=hm (k+i)
  simp
  omega)
 simpa [memD]using this
theorem grown_undrew{w w':World}{r:Option Nat}(h:w.drew.grownBy w' r):w.grownBy w' r:=⟨h.os,h.tape,h.output,h.size,h.block⟩
theorem conv_none(mem:Nat->Int)(ad:Addr)(k c:Nat)(w:World):(convert 74 9 (.slice (some ad) 0 c)).run Tryz.prog w=.ok (.string (memD mem k 0)) w:=by
 have:=run_convert_bytes_back (P:=Tryz.prog) w 74 9 5 ad c [] Tryz.underlying74 Tryz.underlying5 Tryz.underlying9 (by intro j hj;simp at hj)
 simpa [memD]using this
theorem call_64{B b mb:Nat}{m:M}{vE vA vS vB:Value}{w:World}(h:Whole B b mb m vE vA vS vB w)(hz:0<m.size)(hf:Fine m)(hlt:m.steps<m.fuel)(hev:m.evs.length<=m.steps)(k j:Nat)(hk:m.regs 11=k)(hj:m.regs 12=j)(hkj:k+j<=m.size)(k1:m.regs 17=64)(hks:k<m.size):
  Calls Tryz.prog 81 #[.pointer (some ⟨b,0,none⟩)] w fun e w'=>e=.returned (.tuple #[])/\∃vE' vA',Whole B b mb (setReg {m with evs:=m.evs++[⟨64,(j:Int),memD m.mem k j⟩] } 10 j) vE' vA' vS vB w'/\Below B w w':=by
 have HH:Hid (Whole B b mb m vE vA vS vB w):=h
 have HF:Hid (Fine m):=hf
 obtain⟨i0,hi,hz0,hz1,hz2⟩:=info_parts info_ev
 have hsz:m.evs.length<=2000:=by have:=hf.fuel.2;omega
 have lb:b<w.heap.size:=World.block_lt_of_cell? _ _ h.ref.data
 have HBs:Hid (B<=w.heap.size+1):=(by have:=h.ref.hb;omega:B<=w.heap.size+1)
 have c10:w.cell? ⟨b,12,none⟩=some (.int .u32 (m.regs 10)):=h.ref.reg 10 dC
 have c11:w.cell? ⟨b,13,none⟩=some (.int .u32 (m.regs 11)):=h.ref.reg 11 dC
 have c12:w.cell? ⟨b,14,none⟩=some (.int .u32 (m.regs 12)):=h.ref.reg 12 dC
 have c17:w.cell? ⟨b,19,none⟩=some (.int .u32 (m.regs 17)):=h.ref.reg 17 dC
 have c36:w.cell? ⟨b,36,none⟩=some vE:=h.ref.cells 36 dC dC
 have cda:=h.ref.data
 have p0:=(hf.regs 11).1
 have p1:=(hf.regs 11).2
 have n0:=(hf.regs 12).1
 have n1:=(hf.regs 12).2
 have s0:=(hf.regs 10).1
 have s1:=(hf.regs 10).2
 have z1:=hf.size
 have st0:=hf.steps
 have st1:m.steps<2000:=by have:=hf.fuel.2;omega
 have HKS:Hid (∀w',Touch (sblk vE) w w'->(fun w'=>w'.cell? ⟨b,36,none⟩=some vE/\w'.cell? ⟨b,39,none⟩=some (.slice (some ⟨mb,0,none⟩) m.size m.size)/\(convert 74 9 (.slice (some ⟨mb,k,none⟩) (((k:Int)+(j:Int)).toNat-k) (m.size-k))).run Tryz.prog w'=.ok (.string (memD m.mem k j)) w') w'):=fun w' t=>
  have hr:=h.ref.other t (fun hc=>(h.dE b hc).1 rfl) (fun hc=>(h.dE mb hc).2.1 rfl) hz
  ⟨hr.cells 36 dC dC,hr.data,by rw[show((k:Int)+(j:Int)).toNat-k=j by omega];exact conv_mem hr hf.mem k j _ hkj⟩
 rw[hk]at c11
 rw[hj]at c12
 have q0:(0:Int)<=(k:Int):=by omega
 have q1:(0:Int)<=(j:Int):=by omega
 have q2:(k:Int)+(j:Int)<=(m.size:Int):=by omega
 have q3:(k:Int)<=(k:Int)+(j:Int):=by omega
 have q4:¬m.size=k:=by omega
 have q5:((k:Int)+(j:Int))%4294967296=(k:Int)+(j:Int):=by omega
 have q6:IntKind.u32.wrap ((k:Int)+(j:Int))=(k:Int)+(j:Int):=by simp[IntKind.wrap_u32];omega
 have hl:lies m k j=true:=by simp[lies];omega
 clear h hf
 go_enter Tryz.func81,Tryz.ntmps81
 go_wp2_with (first|(go_at_call 51;refine(lies_any HH.out.ref k j oM oM oM oM HF.out.size).mono ?_;rintro e w' ⟨rfl,hw'⟩;subst w'))
 have cvq:=(HKS.out w.drew (Touch.refl _ _).drew).2.2
 go_region_law (((refine step_append_lies _ rF _ _ _ rF B 52 i0 _ 3 24 Tryz.underlying30 hi hz0 hz1 hz2 rF dC vE m.evs.length (evCells m.evs) rF ((HH.out.evs.alloc _).drew) ⟨w.heap.size,0,none⟩ 1 1 [Value.int .u32 64,Value.int .u32 (j:Int),Value.string (memD m.mem k j)] rF rF (World.news_of_block (cs:=#[.int .u32 64,.int .u32 j,.string (memD m.mem k j)]) (t:=52) (fr:=(0,0)) (heap_alloc_new w _)) oC dC mL oM (by simpa using HBs.out) (w.heap.size+1) sP ?_);intro g cap w1 hown hgrow hat hlt2;obtain⟨hr,ht,hs,hk,hd,hbel⟩:=grown_ev HH.out hz (grown_undrew hgrow) hat;have HR:Hid (RefAt B b mb m vE vA vS vB w1):=hr;have HS:Hid (SlotsAt b mb m vS w1):=hs;have HK:Hid (w1.ownsRow B 44 4 vB m.blocks.length (blkCells m.blocks)):=hk;have HD:Hid (g≠b/\g≠mb/\g∉sblk vS/\g∉sblk vB):=hd;have HB:Hid (Below B w w1):=hbel;have HO:Hid (w1.ownsRow B 52 3 (.slice (some ⟨g,0,none⟩) (m.evs.length+1) cap) (m.evs.length+1) (evCells m.evs++[Value.int .u32 64,Value.int .u32 (j:Int),Value.string (memD m.mem k j)])):=hown;have d36:w1.cell? ⟨b,36,none⟩=some vE:=hr.cells 36 dC dC;have f36:=hr.free 36;have d12:w1.cell? ⟨b,12,none⟩=some (.int .u32 (m.regs 10)):=hr.reg 10 dC;have f12:=hr.free 12;clear hr ht hs hk hd hbel hown hat hlt2))
 all_goals go_wp2_with fail
 all_goals go_end0
 all_goals (obtain⟨g1,g2⟩:=whole_ev (m2:=setReg {m with evs:=m.evs++[⟨64,(j:Int),memD m.mem k j⟩] } 10 j) (ev:=⟨64,j,memD m.mem k j⟩) HH.out HS.out HK.out HD.out HB.out HO.out (@at_reg B b mb _ _ vA vS vB _ (at_evs HR.out (m.evs++[⟨64,(j:Int),memD m.mem k j⟩]) _) 10 j dC dC) (((Touch.refl [b] w1).setCell sP _).setCell sP _) (setReg_ev _ _ _).1 (setReg_ev _ _ _).2.1 (setReg_ev _ _ _).2.2 (setReg_ns _ _ _) (setReg_sl _ _ _);exact⟨rfl,_,_,g1,g2⟩)
theorem call_64e{B b mb:Nat}{m:M}{vE vA vS vB:Value}{w:World}(h:Whole B b mb m vE vA vS vB w)(hz:0<m.size)(hf:Fine m)(hlt:m.steps<m.fuel)(hev:m.evs.length<=m.steps)(k:Nat)(hk:m.regs 11=k)(hj:m.regs 12=0)(k1:m.regs 17=64)(hks:m.size=k):
  Calls Tryz.prog 81 #[.pointer (some ⟨b,0,none⟩)] w fun e w'=>e=.returned (.tuple #[])/\∃vE' vA',Whole B b mb (setReg {m with evs:=m.evs++[⟨64,0,memD m.mem k 0⟩] } 10 0) vE' vA' vS vB w'/\Below B w w':=by
 have HH:Hid (Whole B b mb m vE vA vS vB w):=h
 have HF:Hid (Fine m):=hf
 obtain⟨i0,hi,hz0,hz1,hz2⟩:=info_parts info_ev
 have hsz:m.evs.length<=2000:=by have:=hf.fuel.2;omega
 have lb:b<w.heap.size:=World.block_lt_of_cell? _ _ h.ref.data
 have HBs:Hid (B<=w.heap.size+1):=(by have:=h.ref.hb;omega:B<=w.heap.size+1)
 have c10:w.cell? ⟨b,12,none⟩=some (.int .u32 (m.regs 10)):=h.ref.reg 10 dC
 have c11:w.cell? ⟨b,13,none⟩=some (.int .u32 (m.regs 11)):=h.ref.reg 11 dC
 have c12:w.cell? ⟨b,14,none⟩=some (.int .u32 (m.regs 12)):=h.ref.reg 12 dC
 have c17:w.cell? ⟨b,19,none⟩=some (.int .u32 (m.regs 17)):=h.ref.reg 17 dC
 have c36:w.cell? ⟨b,36,none⟩=some vE:=h.ref.cells 36 dC dC
 have cda:=h.ref.data
 have p0:=(hf.regs 11).1
 have p1:=(hf.regs 11).2
 have n0:=(hf.regs 12).1
 have n1:=(hf.regs 12).2
 have s0:=(hf.regs 10).1
 have s1:=(hf.regs 10).2
 have z1:=hf.size
 have st0:=hf.steps
 have st1:m.steps<2000:=by have:=hf.fuel.2;omega
 have HKS:Hid (∀w',Touch (sblk vE) w w'->(fun w'=>w'.cell? ⟨b,36,none⟩=some vE/\w'.cell? ⟨b,39,none⟩=some (.slice (some ⟨mb,0,none⟩) m.size m.size)/\(convert 74 9 (.slice (some ⟨mb,0,none⟩) 0 0)).run Tryz.prog w'=.ok (.string (memD m.mem k 0)) w') w'):=fun w' t=>
  have hr:=h.ref.other t (fun hc=>(h.dE b hc).1 rfl) (fun hc=>(h.dE mb hc).2.1 rfl) hz
  ⟨hr.cells 36 dC dC,hr.data,conv_none m.mem _ k _ w'⟩
 rw[hk]at c11
 rw[hj]at c12
 have q6:IntKind.u32.wrap (k:Int)=(k:Int):=by rw[IntKind.wrap_u32];omega
 have hl:lies m k 0=true:=by simp[lies];omega
 clear h hf
 go_enter Tryz.func81,Tryz.ntmps81
 go_wp2_with (first|(go_at_call 51;refine(lies_any HH.out.ref k 0 oM oM oM oM HF.out.size).mono ?_;rintro e w' ⟨rfl,hw'⟩;subst w'))
 have cvq:=(HKS.out w.drew (Touch.refl _ _).drew).2.2
 go_region_law (((refine step_append_lies _ rF _ _ _ rF B 52 i0 _ 3 24 Tryz.underlying30 hi hz0 hz1 hz2 rF dC vE m.evs.length (evCells m.evs) rF ((HH.out.evs.alloc _).drew) ⟨w.heap.size,0,none⟩ 1 1 [Value.int .u32 64,Value.int .u32 0,Value.string (memD m.mem k 0)] rF rF (World.news_of_block (cs:=#[.int .u32 64,.int .u32 0,.string (memD m.mem k 0)]) (t:=52) (fr:=(0,0)) (heap_alloc_new w _)) oC dC mL oM (by simpa using HBs.out) (w.heap.size+1) sP ?_);intro g cap w1 hown hgrow hat hlt2;obtain⟨hr,ht,hs,hk,hd,hbel⟩:=grown_ev HH.out hz (grown_undrew hgrow) hat;have HR:Hid (RefAt B b mb m vE vA vS vB w1):=hr;have HS:Hid (SlotsAt b mb m vS w1):=hs;have HK:Hid (w1.ownsRow B 44 4 vB m.blocks.length (blkCells m.blocks)):=hk;have HD:Hid (g≠b/\g≠mb/\g∉sblk vS/\g∉sblk vB):=hd;have HB:Hid (Below B w w1):=hbel;have HO:Hid (w1.ownsRow B 52 3 (.slice (some ⟨g,0,none⟩) (m.evs.length+1) cap) (m.evs.length+1) (evCells m.evs++[Value.int .u32 64,Value.int .u32 0,Value.string (memD m.mem k 0)])):=hown;have d36:w1.cell? ⟨b,36,none⟩=some vE:=hr.cells 36 dC dC;have f36:=hr.free 36;have d12:w1.cell? ⟨b,12,none⟩=some (.int .u32 (m.regs 10)):=hr.reg 10 dC;have f12:=hr.free 12;clear hr ht hs hk hd hbel hown hat hlt2))
 all_goals go_wp2_with fail
 all_goals go_end0
 all_goals (obtain⟨g1,g2⟩:=whole_ev (m2:=setReg {m with evs:=m.evs++[⟨64,0,memD m.mem k 0⟩] } 10 0) (ev:=⟨64,0,memD m.mem k 0⟩) HH.out HS.out HK.out HD.out HB.out HO.out (@at_reg B b mb _ _ vA vS vB _ (at_evs HR.out (m.evs++[⟨64,0,memD m.mem k 0⟩]) _) 10 0 dC dC) (((Touch.refl [b] w1).setCell sP _).setCell sP _) (setReg_ev _ _ _).1 (setReg_ev _ _ _).2.1 (setReg_ev _ _ _).2.2 (setReg_ns _ _ _) (setReg_sl _ _ _);exact⟨rfl,_,_,g1,g2⟩)
end ref
namespace ref
open ChangeShapes WideShapes ChangeAt RowKit nums dnums mach
theorem ext_all(s:ByteArray):s.extract 0 s.size=s:=by simp
theorem c63_all{B b mb:Nat}{m:M}{vE vA vS vB:Value}{w:World}(h:Whole B b mb m vE vA vS vB w)(hz:0<m.size)(hf:Fine m)(hlt:m.steps<m.fuel)(hev:m.evs.length<=m.steps)(k j:Nat)(hk:m.regs 11=k)(hj:m.regs 12=j)(hkj:k+j<=m.size)(k1:m.regs 17=63)(hc0:0<=m.cur.1)(hc1:m.cur.1<=4294967295)(sh t:ByteArray)(hs0:m.ans.headD ByteArray.empty=sh)(ht:sh.extract 0 (min sh.size j)=t):
  Calls Tryz.prog 81 #[.pointer (some ⟨b,0,none⟩)] w fun e w'=>e=.returned (.tuple #[])/\∃vE' vA',Whole B b mb (setReg {(wrote {m with mem:=put m.mem k t,ans:=m.ans.tail } k ((t.size:Nat):Int))with evs:=m.evs++[⟨63,((t.size:Nat):Int),t⟩] } 10 ((t.size:Nat):Int)) vE' vA' vS vB w'/\Below B w w':=by
 have HH:Hid (Whole B b mb m vE vA vS vB w):=h
 have HF:Hid (Fine m):=hf
 obtain⟨i0,hi,hz0,hz1,hz2⟩:=info_parts info_ev
 have hsz:m.evs.length<=2000:=by have:=hf.fuel.2;omega
 have lb:b<w.heap.size:=World.block_lt_of_cell? _ _ h.ref.data
 have HBs:Hid (B<=w.heap.size+1):=(by have:=h.ref.hb;omega:B<=w.heap.size+1)
 have c10:w.cell? ⟨b,12,none⟩=some (.int .u32 (m.regs 10)):=h.ref.reg 10 dC
 have c11:w.cell? ⟨b,13,none⟩=some (.int .u32 (m.regs 11)):=h.ref.reg 11 dC
 have c12:w.cell? ⟨b,14,none⟩=some (.int .u32 (m.regs 12)):=h.ref.reg 12 dC
 have c17:w.cell? ⟨b,19,none⟩=some (.int .u32 (m.regs 17)):=h.ref.reg 17 dC
 have c36:w.cell? ⟨b,36,none⟩=some vE:=h.ref.cells 36 dC dC
 have cda:=h.ref.data
 have p0:=(hf.regs 11).1
 have p1:=(hf.regs 11).2
 have n0:=(hf.regs 12).1
 have n1:=(hf.regs 12).2
 have s0:=(hf.regs 10).1
 have s1:=(hf.regs 10).2
 have z1:=hf.size
 have st0:=hf.steps
 have st1:m.steps<2000:=by have:=hf.fuel.2;omega
 have hA:=h.ans
 obtain⟨oa,cap,hv,hl1,hl2,hl3,hcs,hsz2⟩:=h.ans
 have hl:lies m k j=true:=by simp[lies];omega
 rw[hk]at c11
 rw[hj]at c12
 have hks0:k<=m.size:=by omega
 have z1:m.size<=512:=hf.size
 have c41:w.cell? ⟨b,41,none⟩=some (.slice oa m.ans.length cap):=(h.ref.cells 41 dC dC).trans (by rw[<-hv];rfl)
 have f41:=h.ref.free 41
 have tj:t.size<=j:=by rw[<-ht,ByteArray.size_extract];omega
 have hssz:sh.size<=1048576:=by
  rw[<-hs0]
  cases hans:m.ans with
  |nil=>exact Nat.zero_le _
  |cons sx rest=>exact hsz2 sx (by rw[hans];exact List.mem_cons_self)
 have HS0:Hid (m.ans.headD ByteArray.empty=sh):=hs0
 have HAN:Hid (AnsAt B m.ans vA w/\vA=.slice oa m.ans.length cap/\m.ans.length<=cap/\m.ans.length<=4096/\∀k s,m.ans[k]?=some s->∃ad,oa=some ad/\ad.block<B/\w.cell? (ad.add k)=some (.string s)):=⟨hA,hv,hl1,hl2,hcs⟩
 have HTT:Hid (sh.extract 0 (min sh.size j)=t):=ht
 clear h hA hf hv hl1 hl2 hl3 hcs hsz2 ht hs0
 go_enter Tryz.func81,Tryz.ntmps81
 go_upto_if 118 with(first|(go_at_call 51;refine(lies_any HH.out.ref k j oM oM oM oM HF.out.size).mono ?_;rintro e w' ⟨rfl,hw'⟩;subst w'))
 go_cut [6]from 25 (fun s wx=>∃vA',s=.string sh/\Whole B b mb {m with ans:=m.ans.tail } vE vA' vS vB wx/\Below B w wx)
 case first=>
  obtain⟨a1,a2,a3,a4,a5⟩:=HAN.out
  cases hans:m.ans with
  |nil=>
   rw[hans]at c41
   go_wp2_with fail
   go_meet
   refine⟨vA,by rw[<-HS0.out,hans];rfl, ?_,Below.refl _ _⟩
   have h:=HH.out
   rw[hans]
   exact⟨⟨h.ref.hb,h.ref.hmb,h.ref.ne,h.ref.cells,h.ref.data,h.ref.free,h.ref.bytes,h.ref.freem⟩,h.slots,h.evs,by have:=h.ans;rw[hans]at this;exact this,h.blks,h.dE,h.dB,h.bS⟩
  |cons sx rest=>
   obtain⟨ad,had,hadb,hadc⟩:=a5 0 sx (by rw[hans];rfl)
   have e0:ad.add 0=ad:=rfl
   rw[e0]at hadc
   rw[had,hans]at c41
   replace c41:w.cell? ⟨b,41,none⟩=some (.slice (some ad) (rest.length+1) cap):=c41
   have ql:0<(sx::rest).length:=Nat.succ_pos _
   have lr:rest.length<4096:=by rw[hans]at a4;simp at a4;omega
   have lc:rest.length+1<=cap:=by rw[hans]at a3;simpa using a3
   have hA2:AnsAt B rest (.slice (if cap=1 then some ad else some (ad.add 1)) rest.length (cap-1)) w:=AnsAt.tail (s:=sx) (by rw[a2,had,hans]at a1;exact a1)
   by_cases hcap:cap=1
   ·subst hcap
    have hr0:rest=[]:=List.eq_nil_of_length_eq_zero oM
    subst hr0
    rw[if_pos rfl]at hA2
    have HA3:Hid (Whole B b mb {m with ans:=[] } vE (Value.slice (some ad) 0 0) vS vB (w.setCell ⟨b,41,none⟩ (Value.slice (some ad) 0 0))):=whole_ans HH.out [] _ hA2
    clear hA2 a1 a2 a3 a4 a5 had
    go_wp2_with fail
    go_meet
    exact⟨Value.slice (some ad) 0 0,by rw[<-HS0.out,hans];rfl,by rw[hans];exact HA3.out,(Below.refl _ _).setCell (by exact HH.out.ref.hb) _⟩
   ·rw[if_neg hcap]at hA2
    have HA3:Hid (Whole B b mb {m with ans:=rest } vE (Value.slice (some ⟨ad.block,ad.off+1,none⟩) rest.length (cap-1)) vS vB (w.setCell ⟨b,41,none⟩ (Value.slice (some ⟨ad.block,ad.off+1,none⟩) rest.length (cap-1)))):=whole_ans HH.out rest _ hA2
    clear hA2 a1 a2 a3 a4 a5 had
    go_wp2_with fail
    go_meet
    exact⟨Value.slice (some ⟨ad.block,ad.off+1,none⟩) rest.length (cap-1),by rw[<-HS0.out,hans];rfl,by rw[hans];exact HA3.out,(Below.refl _ _).setCell (by exact HH.out.ref.hb) _⟩
 case rest=>
 obtain⟨vA2,rfl,hW,hBB⟩:=hcut
 have HHB:Hid (Whole B b mb {m with ans:=m.ans.tail } vE vA2 vS vB wc):=hW
 have HBB:Hid (Below B w wc):=hBB
 obtain⟨W,hWc⟩:∃W,W=wc:=⟨_,rfl⟩
 subst hWc
 clear hW hBB c41 f41
 go_upto_if 138 with fail
 go_cut [6]from 25 (fun s wx=>s=.string t/\wx=W)
 case first=>
  by_cases hle:sh.size<=j
  ·go_wp2_with fail
   go_meet
   refine⟨?_,rfl⟩
   rw[<-HTT.out,Nat.min_eq_left hle,ext_all]
  ·have hgt:j<sh.size:=by omega
   go_wp2_with fail
   go_meet
   refine⟨?_,rfl⟩
   rw[<-HTT.out,Nat.min_eq_right (Nat.le_of_lt hgt)]
 case rest=>
 obtain⟨rfl,hwc⟩:=hcut
 replace hwc:=hwc.symm
 subst hwc
 have cda2:=HHB.out.ref.data
 have cdb:W.cell? ⟨b,1,none⟩=some (.int .u32 m.pc):=HHB.out.ref.cells 1 dC dC
 have lbW:b<W.heap.size:=World.block_lt_of_cell? _ _ cdb
 clear cdb
 go_upto_region 24 with fail
 go_cut []from 142 to 149 (fun wx=>wx=W.setCells mb k (strCells t))
 case first=>
  by_cases hks:m.size=k
  ·have hrun:∀ty,(Builtin.copy_ #[74,9] ty #[.slice (some ⟨mb,0,none⟩) 0 0,.string t]).run Tryz.prog W=.ok (goInt (t.size:Int)) (W.setCells mb k (strCells t)):=fun ty=>copy_run HHB.out.ref z1 k 0 0 0 t X90 (fun hp=>by omega) oM ty
   go_wp2_with fail
   go_meet
   rfl
  ·have hrun:∀ty,(Builtin.copy_ #[74,9] ty #[.slice (some ⟨mb,k,none⟩) (m.size-k) (m.size-k),.string t]).run Tryz.prog W=.ok (goInt (t.size:Int)) (W.setCells mb k (strCells t)):=fun ty=>copy_run HHB.out.ref z1 k k (m.size-k) (m.size-k) t X90 (fun hp=>rfl) oM ty
   go_wp2_with fail
   go_meet
   rfl
 case rest=>
 have hw1:=hcut
 have HR1:Hid (RefAt B b mb {m with mem:=put m.mem k t,ans:=m.ans.tail } vE vA2 vS vB wc):=by rw[hw1];exact HHB.out.ref.puts k t X90
 have HT1:Hid (Touch [mb] W wc):=by rw[hw1];exact touch_setCells sP _ _ _ _ (Touch.refl _ _)
 have HS1:Hid (SlotsAt b mb {m with mem:=put m.mem k t,ans:=m.ans.tail } vS wc):=HHB.out.slots.far HT1.out (fun i hi=>by simpa using(HHB.out.slots.apart i hi).2) rfl rfl
 obtain⟨m1,hm1⟩:∃m1,m1=(wrote {m with mem:=put m.mem k t,ans:=m.ans.tail } k ((t.size:Nat):Int)):=⟨_,rfl⟩
 have EV:Hid (m1.evs=m.evs/\m1.size=m.size/\m1.ans=m.ans.tail/\m1.blocks=m.blocks):=by rw[hm1];exact⟨(wrote_ev _ _ _).1,(wrote_pc _ _ _).2.2,(wrote_ev _ _ _).2.1,(wrote_ev _ _ _).2.2⟩
 have HM:Hid (m1=(wrote {m with mem:=put m.mem k t,ans:=m.ans.tail } k ((t.size:Nat):Int))):=hm1
 clear hw1 hm1 hcut cda2
 go_wp2_with (first|(go_at_call 105;refine(wrote_whole B b mb {m with ans:=m.ans.tail } m1 vE vA2 vS vB W _ t k ((t.size:Nat):Int) (by first|rfl|omega) HHB.out HR1.out HS1.out HT1.out HM.out hz z1 hc0 hc1 X90).mono ?_;rintro e w2 ⟨rfl,hw2,hb2⟩;have HH2:Hid (Whole B b mb m1 vE vA2 vS vB w2):=hw2;have HB2:Hid (Below B w w2):=HBB.out.trans hb2;have d36:w2.cell? ⟨b,36,none⟩=some vE:=hw2.ref.cells 36 dC dC;have HBs2:Hid (B<=w2.heap.size+1):=Nat.le_trans hw2.ref.hb (Nat.le_of_lt (Nat.lt_succ_of_lt (World.block_lt_of_cell? _ _ hw2.ref.data)));clear hw2 hb2)|(at_builtin;(refine wpList_append_lies _ rF _ _ _ rF B 52 i0 _ 3 24 Tryz.underlying30 hi hz0 hz1 hz2 rF dC vE m1.evs.length (evCells m1.evs) rF (HH2.out.evs.alloc _) ⟨w2.heap.size,0,none⟩ 1 1 [Value.int .u32 63,Value.int .u32 ((t.size:Nat):Int),Value.string t] rF rF (World.news_of_block (heap_alloc_new w2 _)) oC dC (by rw[EV.out.1];unfold maxLen;omega) (by rw[EV.out.1];omega) (by simpa using HBs2.out) (w2.heap.size+1) sP ?_);intro g cap2 w3 hown hgrow hat hlt2;obtain⟨hr,ht,hs,hk',hd,hbel⟩:=grown_ev HH2.out (by rw[EV.out.2.1];exact hz) hgrow hat;have HR3:Hid (RefAt B b mb m1 vE vA2 vS vB w3):=hr;have HS3:Hid (SlotsAt b mb m1 vS w3):=hs;have HK3:Hid (w3.ownsRow B 44 4 vB m1.blocks.length (blkCells m1.blocks)):=hk';have HD3:Hid (g≠b/\g≠mb/\g∉sblk vS/\g∉sblk vB):=hd;have HB3:Hid (Below B w2 w3):=hbel;have HO3:Hid (w3.ownsRow B 52 3 (.slice (some ⟨g,0,none⟩) (m1.evs.length+1) cap2) (m1.evs.length+1) (evCells m1.evs++[Value.int .u32 63,Value.int .u32 ((t.size:Nat):Int),Value.string t])):=hown;have e36:w3.cell? ⟨b,36,none⟩=some vE:=hr.cells 36 dC dC;have f36:=hr.free 36;have d12:w3.cell? ⟨b,12,none⟩=some (.int .u32 (m1.regs 10)):=hr.reg 10 dC;have f12:=hr.free 12;clear hr ht hs hk' hd hbel hown hgrow hat hlt2))
 go_end0
 obtain⟨g1,g2⟩:=whole_ev (m:=m1) (m2:=setReg {m1 with evs:=m1.evs++[⟨63,((t.size:Nat):Int),t⟩] } 10 ((t.size:Nat):Int)) (ev:=⟨63,((t.size:Nat):Int),t⟩) HH2.out HS3.out HK3.out HD3.out HB3.out HO3.out (@at_reg B b mb _ _ vA2 vS vB _ (at_evs HR3.out (m1.evs++[⟨63,((t.size:Nat):Int),t⟩]) _) 10 ((t.size:Nat):Int) dC dC) (((Touch.refl [b] w3).setCell sP _).setCell sP _) (setReg_ev _ _ _).1 (setReg_ev _ _ _).2.1 (setReg_ev _ _ _).2.2 (setReg_ns _ _ _) (setReg_sl _ _ _)
 rw[<-HM.out,<-EV.out.1]
 exact⟨rfl,_,_,g1,HB2.out.trans g2⟩
end ref
namespace ref
open ChangeShapes WideShapes ChangeAt RowKit nums dnums mach
end ref
end Go.Proofs.YtjikimpejlmdiaaGreatDoor

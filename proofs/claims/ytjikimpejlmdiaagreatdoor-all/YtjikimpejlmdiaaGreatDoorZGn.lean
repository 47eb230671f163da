import Derived.Test.YtjikimpejlmdiaaGreatDoorZGm
import Derived.Test.YtjikimpejlmdiaaGreatDoorZGj
set_option maxHeartbeats 4000000
set_option linter.unusedVariables false
set_option linter.unusedSimpArgs false
set_option maxRecDepth 10000
namespace Go.Proofs.YtjikimpejlmdiaaGreatDoor
theorem Xe0{p:Prop}(h:p:=by
 have HH:Hid (PW B E b mb sb m nx vE vA w):=h
 have HF:Hid (Fine m):=hf
 have z1:=hf.size
 have c10:w.cell? ⟨b,10,none⟩=some (.int .u32 (m.regs 10)):=h.p.reg 10 dC
 have cL:=h.cL
 have cda:=h.p.data
 have cB:w.cell? ⟨b,36,none⟩=some (.int .u32 m.brk):=h.p.cells 36 dC dC
 have fB:=h.p.free 36
 have s0:=(hf.regs 10).1
 have s1:=(hf.regs 10).2
 have l0:=hf.low.1
 have l1:=hf.low.2
 clear h hf
 go_enter Tryz.func155,Tryz.ntmps155
 go_wp2_with (first|(go_at_call 144;refine(Calls.mono (set_any HH.out.p 10 m.brk dC dC) ?_);rintro e w2 ⟨rfl,hp2,ht2⟩;have H2:Hid (PW B E b mb sb (setReg m 10 m.brk) nx vE vA w2):=HH.out.step hp2 (ht2.mono sP) rfl rfl rfl rfl rfl;have T2:Hid (ref.Touch [b] _ w2):=ht2;clear hp2 ht2))
 go_end0
 exact⟨rfl,_,_,H2.out,T2.out.mono sP⟩):p:=h
theorem Xe1{p:Prop}(h:p:=by
 go_wp2_with (first|(go_at_call 171;refine(Calls.mono (span_fa HH.out.p HF.out hl) ?_);rintro e w1 ⟨rfl,ht1⟩;have H1:Hid (PW B E b mb sb m nx vE vA w1):=HH.out.quiet hz ht1;have T1:Hid (ref.Touch [] w w1):=ht1;clear ht1)|(go_at_call 144;refine(Calls.mono (set_any H1.out.p 10 4294967282 dC dC) ?_);rintro e w2 ⟨rfl,hp2,ht2⟩;have H2:Hid (PW B E b mb sb (setReg m 10 4294967282) nx vE vA w2):=H1.out.step hp2 (ht2.mono sP) rfl rfl rfl rfl rfl;have T2:Hid (ref.Touch [b] _ w2):=ht2;clear hp2 ht2))
 refine bodyPost_ret (results_none rfl _ _ _) rfl ?_
 exact⟨rfl,_,_,H2.out,(T1.out.mono sP).trans (T2.out.mono sP)⟩):p:=h
theorem Xe2{p:Prop}(h:p:=by
 go_end0
 exact⟨rfl,_,_,H1.out,((ref.Touch.refl _ _).alloc _).trans T1.out⟩):p:=h
theorem Xe3{p:Prop}(h:p:=by
 go_end0
 have h5:=H5.out
 rw[(wrote_g _ _ _).2.2.2.2.2.2.2.2.2.1]at h5
 exact⟨rfl,_,_,h5,((((T1.out.mono sP).trans (T3.out.mono sP)).trans (T4.out.mono sP)).trans (T6.out.mono sP)).trans (T5.out.mono (by simp;intro i hi;exact Or.inr (Or.inr (Or.inr hi))))⟩):p:=h
theorem Xe4{p:Prop}(h:p:=by simp;intro i hi;exact Or.inr (Or.inr (Or.inr hi))):p:=h
theorem Xe5{p:Prop}(h:p:=by show some (Value.int .u32 (m.regs 11))=_;rw[hk]):p:=h
theorem Xe6{p:Prop}(h:p:=by rw[(wrote_g _ _ _).2.2.2.2.2.2.2.2.2.1];exact hsz):p:=h
theorem Xe7{p:Prop}(h:p:=by rw[hw4];exact(ref.Touch.refl _ _).drew.alloc _):p:=h
theorem Xe8{p:Prop}(h:p:=by rw[(wrote_g _ _ _).2.2.1];exact hz):p:=h
theorem Xe9{p:Prop}(h:p:=by rw[hcp];exact grownCap_ge _ _ _ _):p:=h
theorem Xea{p:Prop}(h:p:=by show _<=m.size;omega):p:=h
namespace prog
open ChangeShapes WideShapes ChangeAt RowKit nums dnums mach
attribute [local go_sem ↓] Go.wp_at_zero Go.wp_at_succ
def CP (B E b mb sb:Nat) (m:M) (nx:Int) (vE:Value) (w:World) (e:Ending) (w':World):Prop:=e=.returned (.tuple #[])/\∃vE' vA',PW B E b mb sb m nx vE' vA' w'/\ref.Touch (b::mb::sb::ref.sblk vE) w w'
def CX (B E b mb sb:Nat) (m:M) (nx:Int) (vE:Value) (w:World) (e:Ending) (w':World):Prop:=e=.panicked (trapV 1)/\∃vE' vA',PW B E b mb sb m nx vE' vA' w'/\ref.Touch (b::mb::sb::ref.sblk vE) w w'
theorem cw_fa{B E b mb sb:Nat}{m:M}{nx:Int}{vE vA:Value}{w:World}(h:PW B E b mb sb m nx vE vA w)(hz:0<m.size)(hf:Fine m)(hsz:m.evs.length<=2000)(hl:lies m (m.regs 11) (m.regs 12)=false):Calls Tryz.prog 153 #[.pointer (some ⟨b,0,none⟩)] w (CP B E b mb sb (setReg m 10 4294967282) nx vE w):=by
 have HH:Hid (PW B E b mb sb m nx vE vA w):=h
 have HF:Hid (Fine m):=hf
 have z1:=hf.size
 clear h hf
 go_enter Tryz.func153,Tryz.ntmps153
 exact Xe1
theorem cw_ok{B E b mb sb:Nat}{m:M}{nx:Int}{vE vA:Value}{w:World}(h:PW B E b mb sb m nx vE vA w)(hz:0<m.size)(hf:Fine m)(hsz:m.evs.length<=2000)(k j:Nat)(hk:m.regs 11=k)(hj:m.regs 12=j)(hkj:k+j<=m.size):Calls Tryz.prog 153 #[.pointer (some ⟨b,0,none⟩)] w (CP B E b mb sb (setReg {m with evs:=m.evs++[⟨64,(j:Int),ref.memD m.mem k j⟩] } 10 j) nx vE w):=by
 have HH:Hid (PW B E b mb sb m nx vE vA w):=h
 have HF:Hid (Fine m):=hf
 have z1:=hf.size
 have HF2:Hid (Fine m):=hf
 clear h hf
 go_enter Tryz.func153,Tryz.ntmps153
 go_wp2_with (first|(go_at_call 171;refine(Calls.mono (span_ok HH.out.p HF.out k j hk hj hkj) ?_);rintro e w1 ⟨o,c,rfl,ho,hjc,hc5,ht1⟩;have H1:Hid (PW B E b mb sb m nx vE vA w1):=HH.out.quiet hz ht1;have T1:Hid (ref.Touch [] w w1):=ht1;have HO:Hid (0<j->o=k):=ho;clear ht1 ho;have HO2:Hid (0<j->o=k):=HO.out)|(go_at_call 172;refine(Calls.mono (ansB_any H1.out hz hsz 64 (some ⟨mb,o,none⟩) j c oM (ref.memD m.mem k j) (conv_p H1.out.p HF2.out.mem k o j c hkj HO2.out)) ?_);rintro e w5 ⟨rfl,vE5,hp5,ht5⟩;have H5:Hid (PW B E b mb sb (setReg {m with evs:=m.evs++[⟨64,(j:Int),ref.memD m.mem k j⟩] } 10 j) nx vE5 vA w5):=hp5;have T5:Hid (ref.Touch (b::ref.sblk vE) _ w5):=ht5;clear hp5 ht5))
 go_end0
 exact⟨rfl,_,_,H5.out,(T1.out.mono sP).trans (T5.out.mono Xe4)⟩
theorem cr_fa{B E b mb sb:Nat}{m:M}{nx:Int}{vE vA:Value}{w:World}(h:PW B E b mb sb m nx vE vA w)(hz:0<m.size)(hf:Fine m)(hsz:m.evs.length<=2000)(hl:lies m (m.regs 11) (m.regs 12)=false):Calls Tryz.prog 154 #[.pointer (some ⟨b,0,none⟩)] w (CP B E b mb sb (setReg m 10 4294967282) nx vE w):=by
 have HH:Hid (PW B E b mb sb m nx vE vA w):=h
 have HF:Hid (Fine m):=hf
 have z1:=hf.size
 clear h hf
 go_enter Tryz.func154,Tryz.ntmps154
 exact Xe1
theorem put_0(mem:Nat->Int)(k:Nat)(t:ByteArray)(h:t.size=0):put mem k t=mem:=by
 funext i
 unfold put
 rw[if_neg oM]
theorem put_any{B b mb sb:Nat}{X:List Nat}{m:M}{nx:Int}{vX:Nat->Value}{w:World}(h:PCt B b mb sb X m nx vX w)(hz:m.size<=512)(h0:0<m.size)(k gb c:Nat)(t:ByteArray)(hk:k+t.size<=m.size)(hc:t.size<=c)(hl:∀j (hj:j<t.data.size),w.cell? ⟨gb,j,none⟩=some (.int .u8 (t.data[j].toNat:Int))):
  Calls Tryz.prog 174 #[.pointer (some ⟨b,0,none⟩),.int .u32 k,.slice (some ⟨gb,0,none⟩) t.size c] w fun e w'=>e=.returned (.tuple #[])/\PCt B b mb sb X (wrote {m with mem:=put m.mem k t } k t.size) nx vX w'/\ref.Touch [mb,sb] w w':=by
 by_cases e:k<m.size
 ·have hsz:t.size=t.data.size:=rfl
  refine put_y h hz k gb c t.size (t.data.toList.map fun x=>(x.toNat:Int)) (by rw[List.length_map,<-Lib.size_eq]) hc hk e (fun j v hv=> ?_) _ (fun i=> ?_)
  ·rw[List.getElem?_map]at hv
   obtain⟨x,hx,rfl⟩:=Option.map_eq_some_iff.1 hv
   obtain⟨hj,rfl⟩:=List.getElem?_eq_some_iff.1 hx
   have:=hl j (by simpa using hj)
   simpa using this
  ·unfold put
   by_cases q:k<=i/\i<k+t.size
   ·rw[if_pos q,if_pos q]
    have hs:i-k<t.data.size:=by omega
    have hs2:i-k<t.size:=by omega
    simp[List.getD,Array.getD,hs,hs2]
   ·rw[if_neg q,if_neg q]
 ·have hs0:t.size=0:=by omega
  obtain rfl:k=m.size:=by omega
  rw[hs0,put_0 _ _ _ hs0,show wrote {m with mem:=m.mem } (m.size:Int) ((0:Nat):Int)=m from by simp[wrote]]
  exact put_n h hz h0 gb c
theorem back_p(w:World)(gb c:Nat)(t:ByteArray)(hl:∀j (hj:j<t.data.size),w.cell? ⟨gb,j,none⟩=some (.int .u8 (t.data[j].toNat:Int))):(convert 74 9 (.slice (some ⟨gb,0,none⟩) t.size c)).run Tryz.prog w=.ok (.string t) w:=by
 have:=run_convert_bytes_back (P:=Tryz.prog) w 74 9 5 ⟨gb,0,none⟩ c t.data.toList Tryz.underlying74 Tryz.underlying5 Tryz.underlying9 (by
  intro i hi
  have e:(⟨gb,0,none⟩:Addr).add i=⟨gb,i,none⟩:=by unfold Addr.add;by_cases z:i=0<;>simp[z]
  rw[e,hl i (by simpa using hi)]
  simp)
 simpa using this
theorem cr_A{B E b mb sb:Nat}{m:M}{nx:Int}{vE vA:Value}{w:World}(h:PW B E b mb sb m nx vE vA w)(hz:0<m.size)(hf:Fine m)(hsz:m.evs.length<=2000)(k j:Nat)(hk:m.regs 11=k)(hj:m.regs 12=j)(hkj:k+j<=m.size)(ha:m.ans=[])(t:ByteArray)(ht:t=((⟨#[]⟩:ByteArray)).extract 0 ((⟨#[]⟩:ByteArray)).size):Calls Tryz.prog 154 #[.pointer (some ⟨b,0,none⟩)] w (CP B E b mb sb (setReg {(wrote {m with ans:=[],mem:=put m.mem k t } k t.size)with evs:=m.evs++[⟨63,(t.size:Int),t⟩] } 10 t.size) nx vE w):=by
 have HH:Hid (PW B E b mb sb m nx vE vA w):=h
 have HF:Hid (Fine m):=hf
 have z1:=hf.size
 have HTE:Hid (t=((⟨#[]⟩:ByteArray)).extract 0 ((⟨#[]⟩:ByteArray)).size):=ht
 have htj:t.size<=j:=by rw[ht];simp;exact Nat.zero_le _
 have hj5:j<=512:=by omega
 clear ht
 clear h hf
 go_enter Tryz.func154,Tryz.ntmps154
 go_wp2_with (first|(go_at_call 171;refine(Calls.mono (span_ok HH.out.p HF.out k j hk hj hkj) ?_);rintro e w1 ⟨o,c,rfl,ho,hjc,hc5,ht1⟩;have H1:Hid (PW B E b mb sb m nx vE vA w1):=HH.out.quiet hz ht1;have T1:Hid (ref.Touch [] w w1):=ht1;have HO:Hid (0<j->o=k):=ho;clear ht1 ho)|(go_at_call 173;refine(Calls.mono (nextA_nil H1.out ha) ?_);rintro e w3 ⟨rfl,hw3⟩;have H3:Hid (PW B E b mb sb {m with ans:=[] } nx vE vA w3):=(by rw[hw3];exact H1.out.congr rfl rfl rfl rfl rfl rfl rfl rfl ha.symm rfl rfl rfl rfl rfl);have T3:Hid (ref.Touch [b] w1 w3):=(by rw[hw3];exact ref.Touch.refl _ _);clear hw3;obtain⟨cp,hcp⟩:∃cp,cp=grownCap w3 t.size 0 5:=⟨_,rfl⟩;obtain⟨w4,hw4⟩:∃w4,w4=w3.drew.alloc (.cells (bytesRow t cp) 5 ((bytesRow t cp).size,(bytesRow t cp).size+1)):=⟨_,rfl⟩;have hcv:(convert 9 74 (.string ByteArray.empty)).run Tryz.prog w3=.ok (.slice (some ⟨w3.heap.size,0,none⟩) t.size cp) w4:=(by rw[show ByteArray.empty=t from(by rw[HTE.out];exact(ref.ext_all _).symm),hw4,hcp];exact run_bytes_of_string w3 9 74 5 t Tryz.underlying9 Tryz.underlying74 Tryz.underlying5);have T4:Hid (ref.Touch [] w3 w4):=Xe7;have H4:Hid (PW B E b mb sb {m with ans:=[] } nx vE vA w4):=H3.out.quiet hz T4.out;have L4:Hid (∀j (hj:j<t.data.size),w4.cell? ⟨w3.heap.size,j,none⟩=some (.int .u8 (t.data[j].toNat:Int))):=(fun j hj=>by rw[hw4];exact(World.cell?_alloc_mark w3.drew _ _ _ j).trans (bytesRow_at t cp j hj));have Q4:Hid (t.size<=cp):=Xe9;have c11:w4.cell? ⟨b,11,none⟩=some (.int .u32 (k:Int)):=(H4.out.p.reg 11 dC).trans Xe5;have l3:mb<w3.heap.size/\sb<w3.heap.size:=⟨World.block_lt_of_cell? _ _ (H3.out.p.bytes 0 hz),H3.out.ls⟩;clear hw4 hcp)|(go_at_call 174;refine(Calls.mono (put_any H4.out.ct z1 hz k w3.heap.size cp t Xea Q4.out L4.out) ?_);rintro e w6 ⟨rfl,hp6,ht6⟩;have H6:Hid (PW B E b mb sb (wrote {m with ans:=[],mem:=put m.mem k t } k t.size) nx vE vA w6):=H4.out.of hp6 (ht6.mono sP) (wrote_g _ _ _).2.2.2.2.2.2.2.2.2.1 (wrote_g _ _ _).2.2.2.2.2.2.2.2.2.2.1 (wrote_g _ _ _).2.2.2.2.2.2.2.2.1 (wrote_g _ _ _).1 (wrote_g _ _ _).2.2.2.2.2.2.2.2.2.2.2.1 (wrote_g _ _ _).2.2.2.2.2.2.2.2.2.2.2.2.1;have T6:Hid (ref.Touch [mb,sb] w4 w6):=ht6;have cv6:(convert 74 9 (.slice (some ⟨w3.heap.size,0,none⟩) t.size cp)).run Tryz.prog w6=.ok (.string t) w6:=back_p w6 w3.heap.size cp t (fun j hj=>(ht6.cell (p:=⟨w3.heap.size,j,none⟩) (World.block_lt_of_cell? _ _ (L4.out j hj)) (by simp;omega)).trans (L4.out j hj));clear hp6 ht6)|(go_at_call 172;refine(Calls.mono (ansB_any H6.out Xe8 Xe6 63 _ t.size cp oM t cv6) ?_);rintro e w5 ⟨rfl,vE5,hp5,ht5⟩;have H5:Hid (PW B E b mb sb (setReg {(wrote {m with ans:=[],mem:=put m.mem k t } k t.size)with evs:=((wrote {m with ans:=[],mem:=put m.mem k t } k t.size)).evs++[⟨63,(t.size:Int),t⟩] } 10 t.size) nx vE5 vA w5):=hp5;have T5:Hid (ref.Touch (b::ref.sblk vE) w6 w5):=ht5;clear hp5 ht5))
 exact Xe3
theorem cr_B{B E b mb sb:Nat}{m:M}{nx:Int}{vE vA:Value}{w:World}(h:PW B E b mb sb m nx vE vA w)(hz:0<m.size)(hf:Fine m)(hsz:m.evs.length<=2000)(k j:Nat)(hk:m.regs 11=k)(hj:m.regs 12=j)(hkj:k+j<=m.size)(s:ByteArray)(rest:List ByteArray)(ha:m.ans=s::rest)(hs20:s.size<=1048576)(hsj:s.size<=j)(t:ByteArray)(ht:t=(s).extract 0 (s).size):Calls Tryz.prog 154 #[.pointer (some ⟨b,0,none⟩)] w (CP B E b mb sb (setReg {(wrote {m with ans:=rest,mem:=put m.mem k t } k t.size)with evs:=m.evs++[⟨63,(t.size:Int),t⟩] } 10 t.size) nx vE w):=by
 have HH:Hid (PW B E b mb sb m nx vE vA w):=h
 have HF:Hid (Fine m):=hf
 have z1:=hf.size
 have HTE:Hid (t=(s).extract 0 (s).size):=ht
 have htj:t.size<=j:=by rw[ht,ByteArray.size_extract];omega
 have hj5:j<=512:=by omega
 clear ht
 clear h hf
 go_enter Tryz.func154,Tryz.ntmps154
 go_wp2_with (first|(go_at_call 171;refine(Calls.mono (span_ok HH.out.p HF.out k j hk hj hkj) ?_);rintro e w1 ⟨o,c,rfl,ho,hjc,hc5,ht1⟩;have H1:Hid (PW B E b mb sb m nx vE vA w1):=HH.out.quiet hz ht1;have T1:Hid (ref.Touch [] w w1):=ht1;have HO:Hid (0<j->o=k):=ho;clear ht1 ho)|(go_at_call 173;refine(Calls.mono (nextA_cons H1.out s rest ha) ?_);rintro e w3 ⟨rfl,vA3,hp3,ht3⟩;have H3:Hid (PW B E b mb sb {m with ans:=rest } nx vE vA3 w3):=hp3;have T3:Hid (ref.Touch [b] w1 w3):=ht3;clear hp3 ht3;obtain⟨cp,hcp⟩:∃cp,cp=grownCap w3 t.size 0 5:=⟨_,rfl⟩;obtain⟨w4,hw4⟩:∃w4,w4=w3.drew.alloc (.cells (bytesRow t cp) 5 ((bytesRow t cp).size,(bytesRow t cp).size+1)):=⟨_,rfl⟩;have hcv:(convert 9 74 (.string s)).run Tryz.prog w3=.ok (.slice (some ⟨w3.heap.size,0,none⟩) t.size cp) w4:=(by rw[show s=t from(by rw[HTE.out];exact(ref.ext_all _).symm),hw4,hcp];exact run_bytes_of_string w3 9 74 5 t Tryz.underlying9 Tryz.underlying74 Tryz.underlying5);have T4:Hid (ref.Touch [] w3 w4):=Xe7;have H4:Hid (PW B E b mb sb {m with ans:=rest } nx vE vA3 w4):=H3.out.quiet hz T4.out;have L4:Hid (∀j (hj:j<t.data.size),w4.cell? ⟨w3.heap.size,j,none⟩=some (.int .u8 (t.data[j].toNat:Int))):=(fun j hj=>by rw[hw4];exact(World.cell?_alloc_mark w3.drew _ _ _ j).trans (bytesRow_at t cp j hj));have Q4:Hid (t.size<=cp):=Xe9;have c11:w4.cell? ⟨b,11,none⟩=some (.int .u32 (k:Int)):=(H4.out.p.reg 11 dC).trans Xe5;have l3:mb<w3.heap.size/\sb<w3.heap.size:=⟨World.block_lt_of_cell? _ _ (H3.out.p.bytes 0 hz),H3.out.ls⟩;clear hw4 hcp)|(go_at_call 174;refine(Calls.mono (put_any H4.out.ct z1 hz k w3.heap.size cp t Xea Q4.out L4.out) ?_);rintro e w6 ⟨rfl,hp6,ht6⟩;have H6:Hid (PW B E b mb sb (wrote {m with ans:=rest,mem:=put m.mem k t } k t.size) nx vE vA3 w6):=H4.out.of hp6 (ht6.mono sP) (wrote_g _ _ _).2.2.2.2.2.2.2.2.2.1 (wrote_g _ _ _).2.2.2.2.2.2.2.2.2.2.1 (wrote_g _ _ _).2.2.2.2.2.2.2.2.1 (wrote_g _ _ _).1 (wrote_g _ _ _).2.2.2.2.2.2.2.2.2.2.2.1 (wrote_g _ _ _).2.2.2.2.2.2.2.2.2.2.2.2.1;have T6:Hid (ref.Touch [mb,sb] w4 w6):=ht6;have cv6:(convert 74 9 (.slice (some ⟨w3.heap.size,0,none⟩) t.size cp)).run Tryz.prog w6=.ok (.string t) w6:=back_p w6 w3.heap.size cp t (fun j hj=>(ht6.cell (p:=⟨w3.heap.size,j,none⟩) (World.block_lt_of_cell? _ _ (L4.out j hj)) (by simp;omega)).trans (L4.out j hj));clear hp6 ht6)|(go_at_call 172;refine(Calls.mono (ansB_any H6.out Xe8 Xe6 63 _ t.size cp oM t cv6) ?_);rintro e w5 ⟨rfl,vE5,hp5,ht5⟩;have H5:Hid (PW B E b mb sb (setReg {(wrote {m with ans:=rest,mem:=put m.mem k t } k t.size)with evs:=((wrote {m with ans:=rest,mem:=put m.mem k t } k t.size)).evs++[⟨63,(t.size:Int),t⟩] } 10 t.size) nx vE5 vA3 w5):=hp5;have T5:Hid (ref.Touch (b::ref.sblk vE) w6 w5):=ht5;clear hp5 ht5))
 exact Xe3
theorem cr_C{B E b mb sb:Nat}{m:M}{nx:Int}{vE vA:Value}{w:World}(h:PW B E b mb sb m nx vE vA w)(hz:0<m.size)(hf:Fine m)(hsz:m.evs.length<=2000)(k j:Nat)(hk:m.regs 11=k)(hj:m.regs 12=j)(hkj:k+j<=m.size)(s:ByteArray)(rest:List ByteArray)(ha:m.ans=s::rest)(hs20:s.size<=1048576)(hsj:j<s.size)(t:ByteArray)(ht:t=(s).extract 0 j):Calls Tryz.prog 154 #[.pointer (some ⟨b,0,none⟩)] w (CP B E b mb sb (setReg {(wrote {m with ans:=rest,mem:=put m.mem k t } k t.size)with evs:=m.evs++[⟨63,(t.size:Int),t⟩] } 10 t.size) nx vE w):=by
 have HH:Hid (PW B E b mb sb m nx vE vA w):=h
 have HF:Hid (Fine m):=hf
 have z1:=hf.size
 have HTE:Hid (t=(s).extract 0 j):=ht
 have htj:t.size<=j:=by rw[ht,ByteArray.size_extract];omega
 have hj5:j<=512:=by omega
 clear ht
 clear h hf
 go_enter Tryz.func154,Tryz.ntmps154
 go_wp2_with (first|(go_at_call 171;refine(Calls.mono (span_ok HH.out.p HF.out k j hk hj hkj) ?_);rintro e w1 ⟨o,c,rfl,ho,hjc,hc5,ht1⟩;have H1:Hid (PW B E b mb sb m nx vE vA w1):=HH.out.quiet hz ht1;have T1:Hid (ref.Touch [] w w1):=ht1;have HO:Hid (0<j->o=k):=ho;clear ht1 ho)|(go_at_call 173;refine(Calls.mono (nextA_cons H1.out s rest ha) ?_);rintro e w3 ⟨rfl,vA3,hp3,ht3⟩;have H3:Hid (PW B E b mb sb {m with ans:=rest } nx vE vA3 w3):=hp3;have T3:Hid (ref.Touch [b] w1 w3):=ht3;clear hp3 ht3;obtain⟨cp,hcp⟩:∃cp,cp=grownCap w3 t.size 0 5:=⟨_,rfl⟩;obtain⟨w4,hw4⟩:∃w4,w4=w3.drew.alloc (.cells (bytesRow t cp) 5 ((bytesRow t cp).size,(bytesRow t cp).size+1)):=⟨_,rfl⟩;have hcv:(convert 9 74 (.string ((s).extract 0 j))).run Tryz.prog w3=.ok (.slice (some ⟨w3.heap.size,0,none⟩) t.size cp) w4:=(by rw[<-HTE.out,hw4,hcp];exact run_bytes_of_string w3 9 74 5 t Tryz.underlying9 Tryz.underlying74 Tryz.underlying5);have T4:Hid (ref.Touch [] w3 w4):=Xe7;have H4:Hid (PW B E b mb sb {m with ans:=rest } nx vE vA3 w4):=H3.out.quiet hz T4.out;have L4:Hid (∀j (hj:j<t.data.size),w4.cell? ⟨w3.heap.size,j,none⟩=some (.int .u8 (t.data[j].toNat:Int))):=(fun j hj=>by rw[hw4];exact(World.cell?_alloc_mark w3.drew _ _ _ j).trans (bytesRow_at t cp j hj));have Q4:Hid (t.size<=cp):=Xe9;have c11:w4.cell? ⟨b,11,none⟩=some (.int .u32 (k:Int)):=(H4.out.p.reg 11 dC).trans Xe5;have l3:mb<w3.heap.size/\sb<w3.heap.size:=⟨World.block_lt_of_cell? _ _ (H3.out.p.bytes 0 hz),H3.out.ls⟩;clear hw4 hcp)|(go_at_call 174;refine(Calls.mono (put_any H4.out.ct z1 hz k w3.heap.size cp t Xea Q4.out L4.out) ?_);rintro e w6 ⟨rfl,hp6,ht6⟩;have H6:Hid (PW B E b mb sb (wrote {m with ans:=rest,mem:=put m.mem k t } k t.size) nx vE vA3 w6):=H4.out.of hp6 (ht6.mono sP) (wrote_g _ _ _).2.2.2.2.2.2.2.2.2.1 (wrote_g _ _ _).2.2.2.2.2.2.2.2.2.2.1 (wrote_g _ _ _).2.2.2.2.2.2.2.2.1 (wrote_g _ _ _).1 (wrote_g _ _ _).2.2.2.2.2.2.2.2.2.2.2.1 (wrote_g _ _ _).2.2.2.2.2.2.2.2.2.2.2.2.1;have T6:Hid (ref.Touch [mb,sb] w4 w6):=ht6;have cv6:(convert 74 9 (.slice (some ⟨w3.heap.size,0,none⟩) t.size cp)).run Tryz.prog w6=.ok (.string t) w6:=back_p w6 w3.heap.size cp t (fun j hj=>(ht6.cell (p:=⟨w3.heap.size,j,none⟩) (World.block_lt_of_cell? _ _ (L4.out j hj)) (by simp;omega)).trans (L4.out j hj));clear hp6 ht6)|(go_at_call 172;refine(Calls.mono (ansB_any H6.out Xe8 Xe6 63 _ t.size cp oM t cv6) ?_);rintro e w5 ⟨rfl,vE5,hp5,ht5⟩;have H5:Hid (PW B E b mb sb (setReg {(wrote {m with ans:=rest,mem:=put m.mem k t } k t.size)with evs:=((wrote {m with ans:=rest,mem:=put m.mem k t } k t.size)).evs++[⟨63,(t.size:Int),t⟩] } 10 t.size) nx vE5 vA3 w5):=hp5;have T5:Hid (ref.Touch (b::ref.sblk vE) w6 w5):=ht5;clear hp5 ht5))
 exact Xe3
theorem cb_y{B E b mb sb:Nat}{m:M}{nx:Int}{vE vA:Value}{w:World}(h:PW B E b mb sb m nx vE vA w)(hz:0<m.size)(hf:Fine m)(hsz:m.evs.length<=2000)(hb1:m.low<=m.regs 10)(hb2:m.regs 10<=m.size):Calls Tryz.prog 155 #[.pointer (some ⟨b,0,none⟩)] w (CP B E b mb sb (setReg {m with brk:=m.regs 10 } 10 (m.regs 10)) nx vE w):=by
 have HH:Hid (PW B E b mb sb m nx vE vA w):=h
 have HF:Hid (Fine m):=hf
 have z1:=hf.size
 have c10:w.cell? ⟨b,10,none⟩=some (.int .u32 (m.regs 10)):=h.p.reg 10 dC
 have cL:=h.cL
 have cda:=h.p.data
 have cB:w.cell? ⟨b,36,none⟩=some (.int .u32 m.brk):=h.p.cells 36 dC dC
 have fB:=h.p.free 36
 have s0:=(hf.regs 10).1
 have s1:=(hf.regs 10).2
 have l0:=hf.low.1
 have l1:=hf.low.2
 have H1:Hid (PW B E b mb sb {m with brk:=m.regs 10 } nx vE vA (w.setCell ⟨b,36,none⟩ (.int .u32 (m.regs 10)))):=h.step (at_brk h.p (m.regs 10)) ((ref.Touch.refl _ _).setCell sP _) rfl rfl rfl rfl rfl
 clear h hf
 go_enter Tryz.func155,Tryz.ntmps155
 go_wp2_with (first|(go_at_call 144;refine(Calls.mono (set_any H1.out.p 10 (m.regs 10) dC dC) ?_);rintro e w2 ⟨rfl,hp2,ht2⟩;have H2:Hid (PW B E b mb sb (setReg {m with brk:=m.regs 10 } 10 (m.regs 10)) nx vE vA w2):=H1.out.step hp2 (ht2.mono sP) rfl rfl rfl rfl rfl;have T2:Hid (ref.Touch [b] _ w2):=ht2;clear hp2 ht2))
 go_end0
 exact⟨rfl,_,_,H2.out,((ref.Touch.refl _ _).setCell sP _).trans (T2.out.mono sP)⟩
theorem cb_n1{B E b mb sb:Nat}{m:M}{nx:Int}{vE vA:Value}{w:World}(h:PW B E b mb sb m nx vE vA w)(hz:0<m.size)(hf:Fine m)(hsz:m.evs.length<=2000)(hb:¬m.low<=m.regs 10):Calls Tryz.prog 155 #[.pointer (some ⟨b,0,none⟩)] w (CP B E b mb sb (setReg m 10 m.brk) nx vE w):=by
 exact Xe0
theorem cb_n2{B E b mb sb:Nat}{m:M}{nx:Int}{vE vA:Value}{w:World}(h:PW B E b mb sb m nx vE vA w)(hz:0<m.size)(hf:Fine m)(hsz:m.evs.length<=2000)(hb1:m.low<=m.regs 10)(hb:¬m.regs 10<=m.size):Calls Tryz.prog 155 #[.pointer (some ⟨b,0,none⟩)] w (CP B E b mb sb (setReg m 10 m.brk) nx vE w):=by
 exact Xe0
theorem cx_any{B E b mb sb:Nat}{m:M}{nx:Int}{vE vA:Value}{w:World}(h:PW B E b mb sb m nx vE vA w)(hz:0<m.size)(hf:Fine m)(hsz:m.evs.length<=2000)(hlt:m.steps<m.fuel):Calls Tryz.prog 156 #[.pointer (some ⟨b,0,none⟩)] w (CX B E b mb sb (stop {m with evs:=m.evs++[⟨93,m.regs 10,(⟨#[]⟩:ByteArray)⟩],steps:=m.steps+1 } 1) nx vE w):=by
 have HH:Hid (PW B E b mb sb m nx vE vA w):=h
 have c10:w.cell? ⟨b,10,none⟩=some (.int .u32 (m.regs 10)):=h.p.reg 10 dC
 have st0:=hf.steps
 have st1:m.steps<2000:=by have:=hf.fuel.2;omega
 clear h hf
 go_enter Tryz.func156,Tryz.ntmps156
 go_wp2_with (first|(go_at_call 175;refine(Calls.mono (tell_any HH.out hz hsz 93 (m.regs 10) (⟨#[]⟩:ByteArray)) ?_);rintro e w1 ⟨rfl,vE1,hp1,ht1⟩;have H1:Hid (PW B E b mb sb {m with evs:=m.evs++[⟨93,m.regs 10,(⟨#[]⟩:ByteArray)⟩] } nx vE1 vA w1):=hp1;have T1:Hid (ref.Touch (b::ref.sblk vE) w w1):=ht1;have cS:w1.cell? ⟨b,39,none⟩=some (.int .i64 m.steps):=hp1.p.cells 39 dC dC;have fS:=hp1.p.free 39;clear hp1 ht1)|(go_at_call 76;refine(end_any 1 _).mono ?_;rintro e w' ⟨rfl,hw'⟩;subst w'))
 have h2:PW B E b mb sb {m with evs:=m.evs++[⟨93,m.regs 10,(⟨#[]⟩:ByteArray)⟩],steps:=m.steps+1 } nx vE1 vA (w1.setCell ⟨b,39,none⟩ (.int .i64 (m.steps+1))):=H1.out.step (at_steps H1.out.p (m.steps+1)) ((ref.Touch.refl _ _).setCell sP _) rfl rfl rfl rfl rfl
 exact⟨rfl,rfl,_,_,h2.congr rfl rfl rfl rfl rfl rfl rfl rfl rfl rfl rfl rfl rfl rfl,(T1.out.mono Xe4).setCell sP _⟩
end prog
namespace prog
open ChangeShapes WideShapes ChangeAt RowKit nums dnums mach
theorem c_w0{B E b mb sb:Nat}{m:M}{nx:Int}{vE vA:Value}{w:World}(h:PW B E b mb sb m nx vE vA w)(hz:0<m.size)(hf:Fine m)(hsz:m.evs.length<=2000)(k1:m.regs 17=64)(hl:lies m (m.regs 11) (m.regs 12)=false):Calls Tryz.prog 136 #[.pointer (some ⟨b,0,none⟩),.agg #[.int .i64 46,.int .i64 0,.int .i64 0,.int .i64 0,.int .i32 0]] w (CP B E b mb sb (setReg m 10 4294967282) nx vE w):=by
 have HH:Hid (PW B E b mb sb m nx vE vA (w.alloc (.cells #[.int .i64 46,.int .i64 0,.int .i64 0,.int .i64 0,.int .i32 0] 61))):=h.quiet hz ((ref.Touch.refl _ _).alloc _)
 have HF:Hid (Fine m):=hf
 have c17:(w.alloc (.cells #[.int .i64 46,.int .i64 0,.int .i64 0,.int .i64 0,.int .i32 0] 61)).cell? ⟨b,17,none⟩=some (.int .u32 (m.regs 17)):=HH.out.p.reg 17 dC
 have s0:=(hf.regs 17).1
 have s1:=(hf.regs 17).2
 rw[k1]at c17
 clear h hf
 go_enter Tryz.func136,Tryz.ntmps136
 go_wp2_with (first|(go_at_call 153;refine(Calls.mono (cw_fa HH.out hz HF.out hsz hl) ?_);rintro e w1 ⟨rfl,vE1,vA1,hp1,ht1⟩;have H1:Hid (PW B E b mb sb (setReg m 10 4294967282) nx vE1 vA1 w1):=hp1;have T1:Hid (ref.Touch (b::mb::sb::ref.sblk vE) (w.alloc (.cells #[.int .i64 46,.int .i64 0,.int .i64 0,.int .i64 0,.int .i32 0] 61)) w1):=ht1;clear hp1 ht1))
 exact Xe2
theorem c_w1{B E b mb sb:Nat}{m:M}{nx:Int}{vE vA:Value}{w:World}(h:PW B E b mb sb m nx vE vA w)(hz:0<m.size)(hf:Fine m)(hsz:m.evs.length<=2000)(k1:m.regs 17=64)(k j:Nat)(hk:m.regs 11=k)(hj:m.regs 12=j)(hkj:k+j<=m.size):Calls Tryz.prog 136 #[.pointer (some ⟨b,0,none⟩),.agg #[.int .i64 46,.int .i64 0,.int .i64 0,.int .i64 0,.int .i32 0]] w (CP B E b mb sb (setReg {m with evs:=m.evs++[⟨64,(j:Int),ref.memD m.mem k j⟩] } 10 j) nx vE w):=by
 have HH:Hid (PW B E b mb sb m nx vE vA (w.alloc (.cells #[.int .i64 46,.int .i64 0,.int .i64 0,.int .i64 0,.int .i32 0] 61))):=h.quiet hz ((ref.Touch.refl _ _).alloc _)
 have HF:Hid (Fine m):=hf
 have c17:(w.alloc (.cells #[.int .i64 46,.int .i64 0,.int .i64 0,.int .i64 0,.int .i32 0] 61)).cell? ⟨b,17,none⟩=some (.int .u32 (m.regs 17)):=HH.out.p.reg 17 dC
 have s0:=(hf.regs 17).1
 have s1:=(hf.regs 17).2
 rw[k1]at c17
 clear h hf
 go_enter Tryz.func136,Tryz.ntmps136
 go_wp2_with (first|(go_at_call 153;refine(Calls.mono (cw_ok HH.out hz HF.out hsz k j hk hj hkj) ?_);rintro e w1 ⟨rfl,vE1,vA1,hp1,ht1⟩;have H1:Hid (PW B E b mb sb (setReg {m with evs:=m.evs++[⟨64,(j:Int),ref.memD m.mem k j⟩] } 10 j) nx vE1 vA1 w1):=hp1;have T1:Hid (ref.Touch (b::mb::sb::ref.sblk vE) (w.alloc (.cells #[.int .i64 46,.int .i64 0,.int .i64 0,.int .i64 0,.int .i32 0] 61)) w1):=ht1;clear hp1 ht1))
 exact Xe2
theorem c_r0{B E b mb sb:Nat}{m:M}{nx:Int}{vE vA:Value}{w:World}(h:PW B E b mb sb m nx vE vA w)(hz:0<m.size)(hf:Fine m)(hsz:m.evs.length<=2000)(k1:m.regs 17=63)(hl:lies m (m.regs 11) (m.regs 12)=false):Calls Tryz.prog 136 #[.pointer (some ⟨b,0,none⟩),.agg #[.int .i64 46,.int .i64 0,.int .i64 0,.int .i64 0,.int .i32 0]] w (CP B E b mb sb (setReg m 10 4294967282) nx vE w):=by
 have HH:Hid (PW B E b mb sb m nx vE vA (w.alloc (.cells #[.int .i64 46,.int .i64 0,.int .i64 0,.int .i64 0,.int .i32 0] 61))):=h.quiet hz ((ref.Touch.refl _ _).alloc _)
 have HF:Hid (Fine m):=hf
 have c17:(w.alloc (.cells #[.int .i64 46,.int .i64 0,.int .i64 0,.int .i64 0,.int .i32 0] 61)).cell? ⟨b,17,none⟩=some (.int .u32 (m.regs 17)):=HH.out.p.reg 17 dC
 have s0:=(hf.regs 17).1
 have s1:=(hf.regs 17).2
 rw[k1]at c17
 clear h hf
 go_enter Tryz.func136,Tryz.ntmps136
 go_wp2_with (first|(go_at_call 154;refine(Calls.mono (cr_fa HH.out hz HF.out hsz hl) ?_);rintro e w1 ⟨rfl,vE1,vA1,hp1,ht1⟩;have H1:Hid (PW B E b mb sb (setReg m 10 4294967282) nx vE1 vA1 w1):=hp1;have T1:Hid (ref.Touch (b::mb::sb::ref.sblk vE) (w.alloc (.cells #[.int .i64 46,.int .i64 0,.int .i64 0,.int .i64 0,.int .i32 0] 61)) w1):=ht1;clear hp1 ht1))
 exact Xe2
theorem c_rA{B E b mb sb:Nat}{m:M}{nx:Int}{vE vA:Value}{w:World}(h:PW B E b mb sb m nx vE vA w)(hz:0<m.size)(hf:Fine m)(hsz:m.evs.length<=2000)(k1:m.regs 17=63)(k j:Nat)(hk:m.regs 11=k)(hj:m.regs 12=j)(hkj:k+j<=m.size)(ha:m.ans=[])(t:ByteArray)(ht:t=(⟨#[]⟩:ByteArray).extract 0 (⟨#[]⟩:ByteArray).size):Calls Tryz.prog 136 #[.pointer (some ⟨b,0,none⟩),.agg #[.int .i64 46,.int .i64 0,.int .i64 0,.int .i64 0,.int .i32 0]] w (CP B E b mb sb (setReg {(wrote {m with ans:=[],mem:=put m.mem k t } k t.size)with evs:=m.evs++[⟨63,(t.size:Int),t⟩] } 10 t.size) nx vE w):=by
 have HH:Hid (PW B E b mb sb m nx vE vA (w.alloc (.cells #[.int .i64 46,.int .i64 0,.int .i64 0,.int .i64 0,.int .i32 0] 61))):=h.quiet hz ((ref.Touch.refl _ _).alloc _)
 have HF:Hid (Fine m):=hf
 have c17:(w.alloc (.cells #[.int .i64 46,.int .i64 0,.int .i64 0,.int .i64 0,.int .i32 0] 61)).cell? ⟨b,17,none⟩=some (.int .u32 (m.regs 17)):=HH.out.p.reg 17 dC
 have s0:=(hf.regs 17).1
 have s1:=(hf.regs 17).2
 rw[k1]at c17
 clear h hf
 go_enter Tryz.func136,Tryz.ntmps136
 go_wp2_with (first|(go_at_call 154;refine(Calls.mono (cr_A HH.out hz HF.out hsz k j hk hj hkj ha t ht) ?_);rintro e w1 ⟨rfl,vE1,vA1,hp1,ht1⟩;have H1:Hid (PW B E b mb sb (setReg {(wrote {m with ans:=[],mem:=put m.mem k t } k t.size)with evs:=m.evs++[⟨63,(t.size:Int),t⟩] } 10 t.size) nx vE1 vA1 w1):=hp1;have T1:Hid (ref.Touch (b::mb::sb::ref.sblk vE) (w.alloc (.cells #[.int .i64 46,.int .i64 0,.int .i64 0,.int .i64 0,.int .i32 0] 61)) w1):=ht1;clear hp1 ht1))
 exact Xe2
theorem c_rB{B E b mb sb:Nat}{m:M}{nx:Int}{vE vA:Value}{w:World}(h:PW B E b mb sb m nx vE vA w)(hz:0<m.size)(hf:Fine m)(hsz:m.evs.length<=2000)(k1:m.regs 17=63)(k j:Nat)(hk:m.regs 11=k)(hj:m.regs 12=j)(hkj:k+j<=m.size)(s:ByteArray)(rest:List ByteArray)(ha:m.ans=s::rest)(hs20:s.size<=1048576)(hsj:s.size<=j)(t:ByteArray)(ht:t=s.extract 0 s.size):Calls Tryz.prog 136 #[.pointer (some ⟨b,0,none⟩),.agg #[.int .i64 46,.int .i64 0,.int .i64 0,.int .i64 0,.int .i32 0]] w (CP B E b mb sb (setReg {(wrote {m with ans:=rest,mem:=put m.mem k t } k t.size)with evs:=m.evs++[⟨63,(t.size:Int),t⟩] } 10 t.size) nx vE w):=by
 have HH:Hid (PW B E b mb sb m nx vE vA (w.alloc (.cells #[.int .i64 46,.int .i64 0,.int .i64 0,.int .i64 0,.int .i32 0] 61))):=h.quiet hz ((ref.Touch.refl _ _).alloc _)
 have HF:Hid (Fine m):=hf
 have c17:(w.alloc (.cells #[.int .i64 46,.int .i64 0,.int .i64 0,.int .i64 0,.int .i32 0] 61)).cell? ⟨b,17,none⟩=some (.int .u32 (m.regs 17)):=HH.out.p.reg 17 dC
 have s0:=(hf.regs 17).1
 have s1:=(hf.regs 17).2
 rw[k1]at c17
 clear h hf
 go_enter Tryz.func136,Tryz.ntmps136
 go_wp2_with (first|(go_at_call 154;refine(Calls.mono (cr_B HH.out hz HF.out hsz k j hk hj hkj s rest ha hs20 hsj t ht) ?_);rintro e w1 ⟨rfl,vE1,vA1,hp1,ht1⟩;have H1:Hid (PW B E b mb sb (setReg {(wrote {m with ans:=rest,mem:=put m.mem k t } k t.size)with evs:=m.evs++[⟨63,(t.size:Int),t⟩] } 10 t.size) nx vE1 vA1 w1):=hp1;have T1:Hid (ref.Touch (b::mb::sb::ref.sblk vE) (w.alloc (.cells #[.int .i64 46,.int .i64 0,.int .i64 0,.int .i64 0,.int .i32 0] 61)) w1):=ht1;clear hp1 ht1))
 exact Xe2
theorem c_rC{B E b mb sb:Nat}{m:M}{nx:Int}{vE vA:Value}{w:World}(h:PW B E b mb sb m nx vE vA w)(hz:0<m.size)(hf:Fine m)(hsz:m.evs.length<=2000)(k1:m.regs 17=63)(k j:Nat)(hk:m.regs 11=k)(hj:m.regs 12=j)(hkj:k+j<=m.size)(s:ByteArray)(rest:List ByteArray)(ha:m.ans=s::rest)(hs20:s.size<=1048576)(hsj:j<s.size)(t:ByteArray)(ht:t=s.extract 0 j):Calls Tryz.prog 136 #[.pointer (some ⟨b,0,none⟩),.agg #[.int .i64 46,.int .i64 0,.int .i64 0,.int .i64 0,.int .i32 0]] w (CP B E b mb sb (setReg {(wrote {m with ans:=rest,mem:=put m.mem k t } k t.size)with evs:=m.evs++[⟨63,(t.size:Int),t⟩] } 10 t.size) nx vE w):=by
 have HH:Hid (PW B E b mb sb m nx vE vA (w.alloc (.cells #[.int .i64 46,.int .i64 0,.int .i64 0,.int .i64 0,.int .i32 0] 61))):=h.quiet hz ((ref.Touch.refl _ _).alloc _)
 have HF:Hid (Fine m):=hf
 have c17:(w.alloc (.cells #[.int .i64 46,.int .i64 0,.int .i64 0,.int .i64 0,.int .i32 0] 61)).cell? ⟨b,17,none⟩=some (.int .u32 (m.regs 17)):=HH.out.p.reg 17 dC
 have s0:=(hf.regs 17).1
 have s1:=(hf.regs 17).2
 rw[k1]at c17
 clear h hf
 go_enter Tryz.func136,Tryz.ntmps136
 go_wp2_with (first|(go_at_call 154;refine(Calls.mono (cr_C HH.out hz HF.out hsz k j hk hj hkj s rest ha hs20 hsj t ht) ?_);rintro e w1 ⟨rfl,vE1,vA1,hp1,ht1⟩;have H1:Hid (PW B E b mb sb (setReg {(wrote {m with ans:=rest,mem:=put m.mem k t } k t.size)with evs:=m.evs++[⟨63,(t.size:Int),t⟩] } 10 t.size) nx vE1 vA1 w1):=hp1;have T1:Hid (ref.Touch (b::mb::sb::ref.sblk vE) (w.alloc (.cells #[.int .i64 46,.int .i64 0,.int .i64 0,.int .i64 0,.int .i32 0] 61)) w1):=ht1;clear hp1 ht1))
 exact Xe2
theorem c_by{B E b mb sb:Nat}{m:M}{nx:Int}{vE vA:Value}{w:World}(h:PW B E b mb sb m nx vE vA w)(hz:0<m.size)(hf:Fine m)(hsz:m.evs.length<=2000)(k1:m.regs 17=214)(hb1:m.low<=m.regs 10)(hb2:m.regs 10<=m.size):Calls Tryz.prog 136 #[.pointer (some ⟨b,0,none⟩),.agg #[.int .i64 46,.int .i64 0,.int .i64 0,.int .i64 0,.int .i32 0]] w (CP B E b mb sb (setReg {m with brk:=m.regs 10 } 10 (m.regs 10)) nx vE w):=by
 have HH:Hid (PW B E b mb sb m nx vE vA (w.alloc (.cells #[.int .i64 46,.int .i64 0,.int .i64 0,.int .i64 0,.int .i32 0] 61))):=h.quiet hz ((ref.Touch.refl _ _).alloc _)
 have HF:Hid (Fine m):=hf
 have c17:(w.alloc (.cells #[.int .i64 46,.int .i64 0,.int .i64 0,.int .i64 0,.int .i32 0] 61)).cell? ⟨b,17,none⟩=some (.int .u32 (m.regs 17)):=HH.out.p.reg 17 dC
 have s0:=(hf.regs 17).1
 have s1:=(hf.regs 17).2
 rw[k1]at c17
 clear h hf
 go_enter Tryz.func136,Tryz.ntmps136
 go_wp2_with (first|(go_at_call 155;refine(Calls.mono (cb_y HH.out hz HF.out hsz hb1 hb2) ?_);rintro e w1 ⟨rfl,vE1,vA1,hp1,ht1⟩;have H1:Hid (PW B E b mb sb (setReg {m with brk:=m.regs 10 } 10 (m.regs 10)) nx vE1 vA1 w1):=hp1;have T1:Hid (ref.Touch (b::mb::sb::ref.sblk vE) (w.alloc (.cells #[.int .i64 46,.int .i64 0,.int .i64 0,.int .i64 0,.int .i32 0] 61)) w1):=ht1;clear hp1 ht1))
 exact Xe2
theorem c_bn1{B E b mb sb:Nat}{m:M}{nx:Int}{vE vA:Value}{w:World}(h:PW B E b mb sb m nx vE vA w)(hz:0<m.size)(hf:Fine m)(hsz:m.evs.length<=2000)(k1:m.regs 17=214)(hb:¬m.low<=m.regs 10):Calls Tryz.prog 136 #[.pointer (some ⟨b,0,none⟩),.agg #[.int .i64 46,.int .i64 0,.int .i64 0,.int .i64 0,.int .i32 0]] w (CP B E b mb sb (setReg m 10 m.brk) nx vE w):=by
 have HH:Hid (PW B E b mb sb m nx vE vA (w.alloc (.cells #[.int .i64 46,.int .i64 0,.int .i64 0,.int .i64 0,.int .i32 0] 61))):=h.quiet hz ((ref.Touch.refl _ _).alloc _)
 have HF:Hid (Fine m):=hf
 have c17:(w.alloc (.cells #[.int .i64 46,.int .i64 0,.int .i64 0,.int .i64 0,.int .i32 0] 61)).cell? ⟨b,17,none⟩=some (.int .u32 (m.regs 17)):=HH.out.p.reg 17 dC
 have s0:=(hf.regs 17).1
 have s1:=(hf.regs 17).2
 rw[k1]at c17
 clear h hf
 go_enter Tryz.func136,Tryz.ntmps136
 go_wp2_with (first|(go_at_call 155;refine(Calls.mono (cb_n1 HH.out hz HF.out hsz hb) ?_);rintro e w1 ⟨rfl,vE1,vA1,hp1,ht1⟩;have H1:Hid (PW B E b mb sb (setReg m 10 m.brk) nx vE1 vA1 w1):=hp1;have T1:Hid (ref.Touch (b::mb::sb::ref.sblk vE) (w.alloc (.cells #[.int .i64 46,.int .i64 0,.int .i64 0,.int .i64 0,.int .i32 0] 61)) w1):=ht1;clear hp1 ht1))
 exact Xe2
theorem c_bn2{B E b mb sb:Nat}{m:M}{nx:Int}{vE vA:Value}{w:World}(h:PW B E b mb sb m nx vE vA w)(hz:0<m.size)(hf:Fine m)(hsz:m.evs.length<=2000)(k1:m.regs 17=214)(hb1:m.low<=m.regs 10)(hb:¬m.regs 10<=m.size):Calls Tryz.prog 136 #[.pointer (some ⟨b,0,none⟩),.agg #[.int .i64 46,.int .i64 0,.int .i64 0,.int .i64 0,.int .i32 0]] w (CP B E b mb sb (setReg m 10 m.brk) nx vE w):=by
 have HH:Hid (PW B E b mb sb m nx vE vA (w.alloc (.cells #[.int .i64 46,.int .i64 0,.int .i64 0,.int .i64 0,.int .i32 0] 61))):=h.quiet hz ((ref.Touch.refl _ _).alloc _)
 have HF:Hid (Fine m):=hf
 have c17:(w.alloc (.cells #[.int .i64 46,.int .i64 0,.int .i64 0,.int .i64 0,.int .i32 0] 61)).cell? ⟨b,17,none⟩=some (.int .u32 (m.regs 17)):=HH.out.p.reg 17 dC
 have s0:=(hf.regs 17).1
 have s1:=(hf.regs 17).2
 rw[k1]at c17
 clear h hf
 go_enter Tryz.func136,Tryz.ntmps136
 go_wp2_with (first|(go_at_call 155;refine(Calls.mono (cb_n2 HH.out hz HF.out hsz hb1 hb) ?_);rintro e w1 ⟨rfl,vE1,vA1,hp1,ht1⟩;have H1:Hid (PW B E b mb sb (setReg m 10 m.brk) nx vE1 vA1 w1):=hp1;have T1:Hid (ref.Touch (b::mb::sb::ref.sblk vE) (w.alloc (.cells #[.int .i64 46,.int .i64 0,.int .i64 0,.int .i64 0,.int .i32 0] 61)) w1):=ht1;clear hp1 ht1))
 exact Xe2
theorem c_x{B E b mb sb:Nat}{m:M}{nx:Int}{vE vA:Value}{w:World}(h:PW B E b mb sb m nx vE vA w)(hz:0<m.size)(hf:Fine m)(hsz:m.evs.length<=2000)(k1:m.regs 17=93)(hlt:m.steps<m.fuel):Calls Tryz.prog 136 #[.pointer (some ⟨b,0,none⟩),.agg #[.int .i64 46,.int .i64 0,.int .i64 0,.int .i64 0,.int .i32 0]] w (CX B E b mb sb (stop {m with evs:=m.evs++[⟨93,m.regs 10,(⟨#[]⟩:ByteArray)⟩],steps:=m.steps+1 } 1) nx vE w):=by
 have HH:Hid (PW B E b mb sb m nx vE vA (w.alloc (.cells #[.int .i64 46,.int .i64 0,.int .i64 0,.int .i64 0,.int .i32 0] 61))):=h.quiet hz ((ref.Touch.refl _ _).alloc _)
 have HF:Hid (Fine m):=hf
 have c17:(w.alloc (.cells #[.int .i64 46,.int .i64 0,.int .i64 0,.int .i64 0,.int .i32 0] 61)).cell? ⟨b,17,none⟩=some (.int .u32 (m.regs 17)):=HH.out.p.reg 17 dC
 have s0:=(hf.regs 17).1
 have s1:=(hf.regs 17).2
 rw[k1]at c17
 clear h hf
 go_enter Tryz.func136,Tryz.ntmps136
 go_wp2_with (first|(go_at_call 156;refine(Calls.mono (cx_any HH.out hz HF.out hsz hlt) ?_);rintro e w1 ⟨rfl,vE1,vA1,hp1,ht1⟩;have H1:Hid (PW B E b mb sb (stop {m with evs:=m.evs++[⟨93,m.regs 10,(⟨#[]⟩:ByteArray)⟩],steps:=m.steps+1 } 1) nx vE1 vA1 w1):=hp1;have T1:Hid (ref.Touch (b::mb::sb::ref.sblk vE) (w.alloc (.cells #[.int .i64 46,.int .i64 0,.int .i64 0,.int .i64 0,.int .i32 0] 61)) w1):=ht1;clear hp1 ht1))
 exact⟨rfl,rfl,_,_,H1.out,((ref.Touch.refl _ _).alloc _).trans T1.out⟩
theorem c_no{B E b mb sb:Nat}{m:M}{nx:Int}{vE vA:Value}{w:World}(h:PW B E b mb sb m nx vE vA w)(hz:0<m.size)(hf:Fine m)(hsz:m.evs.length<=2000)(d1:¬m.regs 17=93)(d2:¬m.regs 17=64)(d3:¬m.regs 17=63)(d4:¬m.regs 17=214):Calls Tryz.prog 136 #[.pointer (some ⟨b,0,none⟩),.agg #[.int .i64 46,.int .i64 0,.int .i64 0,.int .i64 0,.int .i32 0]] w (CP B E b mb sb (setReg m 10 4294967258) nx vE w):=by
 have HH:Hid (PW B E b mb sb m nx vE vA (w.alloc (.cells #[.int .i64 46,.int .i64 0,.int .i64 0,.int .i64 0,.int .i32 0] 61))):=h.quiet hz ((ref.Touch.refl _ _).alloc _)
 have c17:(w.alloc (.cells #[.int .i64 46,.int .i64 0,.int .i64 0,.int .i64 0,.int .i32 0] 61)).cell? ⟨b,17,none⟩=some (.int .u32 (m.regs 17)):=HH.out.p.reg 17 dC
 clear h hf
 go_enter Tryz.func136,Tryz.ntmps136
 go_wp2_with (first|(go_at_call 144;refine(Calls.mono (set_any HH.out.p 10 4294967258 dC dC) ?_);rintro e w2 ⟨rfl,hp2,ht2⟩;have H2:Hid (PW B E b mb sb (setReg m 10 4294967258) nx vE vA w2):=HH.out.step hp2 (ht2.mono sP) rfl rfl rfl rfl rfl;have T2:Hid (ref.Touch [b] _ w2):=ht2;clear hp2 ht2))
 go_end0
 exact⟨rfl,_,_,H2.out,((ref.Touch.refl _ _).alloc _).trans (T2.out.mono sP)⟩
theorem call_p{B E b mb sb:Nat}{m:M}{nx:Int}{vE vA:Value}{w:World}(h:PW B E b mb sb m nx vE vA w)(hz:0<m.size)(hf:Fine m)(hsz:m.evs.length<=2000)(c93:¬m.regs 17=93):Calls Tryz.prog 136 #[.pointer (some ⟨b,0,none⟩),.agg #[.int .i64 46,.int .i64 0,.int .i64 0,.int .i64 0,.int .i32 0]] w (CP B E b mb sb (ref.ecd m) nx vE w):=by
 have p0:=(hf.regs 11).1
 have n0:=(hf.regs 12).1
 obtain⟨k,hk⟩:∃k:Nat,m.regs 11=k:=⟨(m.regs 11).toNat,by omega⟩
 obtain⟨j,hj⟩:∃j:Nat,m.regs 12=j:=⟨(m.regs 12).toNat,by omega⟩
 unfold ref.ecd
 dsimp only
 rw[if_neg c93]
 by_cases c64:m.regs 17=64
 ·rw[if_pos c64]
  cases hl:lies m (m.regs 11) (m.regs 12)with
  |false=>rw[if_neg dC];exact c_w0 h hz hf hsz c64 hl
  |true=>
   rw[if_pos rfl]
   have hkj:k+j<=m.size:=by simp[lies,hk,hj]at hl;omega
   rw[hk,hj,Int.toNat_natCast,Int.toNat_natCast]
   exact c_w1 h hz hf hsz c64 k j hk hj hkj
 rw[if_neg c64]
 by_cases c63:m.regs 17=63
 ·rw[if_pos c63]
  cases hl:lies m (m.regs 11) (m.regs 12)with
  |false=>rw[if_neg dC];exact c_r0 h hz hf hsz c63 hl
  |true=>
   rw[if_pos rfl]
   have hkj:k+j<=m.size:=by simp[lies,hk,hj]at hl;omega
   rw[hk,hj,Int.toNat_natCast,Int.toNat_natCast]
   cases ha:m.ans with
   |nil=>
    rw[List.headD_nil,List.tail_nil]
    exact c_rA h hz hf hsz c63 k j hk hj hkj ha _ (by rw[Nat.min_eq_left (by simp:ByteArray.empty.size<=j)];rfl)
   |cons s rest=>
    rw[List.headD_cons,List.tail_cons]
    have hs20:s.size<=1048576:=by
     obtain⟨_,_,_,_,_,_,_,h5⟩:=h.ans
     exact h5 s (by rw[ha];simp)
    by_cases hsj:s.size<=j
    ·exact c_rB h hz hf hsz c63 k j hk hj hkj s rest ha hs20 hsj _ (by rw[Nat.min_eq_left hsj])
    ·exact c_rC h hz hf hsz c63 k j hk hj hkj s rest ha hs20 oM _ (by rw[Nat.min_eq_right oM])
 rw[if_neg c63]
 by_cases c214:m.regs 17=214
 ·rw[if_pos c214]
  by_cases hb:m.low<=m.regs 10/\m.regs 10<=m.size
  ·rw[if_pos hb]
   exact c_by h hz hf hsz c214 hb.1 hb.2
  ·rw[if_neg hb]
   by_cases h1:m.low<=m.regs 10
   ·exact c_bn2 h hz hf hsz c214 h1 (fun h2=>hb ⟨h1,h2⟩)
   ·exact c_bn1 h hz hf hsz c214 h1
 rw[if_neg c214]
 exact c_no h hz hf hsz c93 c64 c63 c214
def DoQ (B E b mb sb:Nat) (m:M) (vE:Value) (x:Int) (w:World) (e:Ending) (w':World):Prop:=
 ((exec m x).ended=false/\e=.returned (.tuple #[])/\∃nx' vE' vA',PW B E b mb sb (exec m x) nx' vE' vA' w'/\ref.Touch (b::mb::sb::ref.sblk vE) w w')\/
 ((exec m x).ended=true/\e=.panicked (trapV (exec m x).out)/\∃nx' vE' vA',PW B E b mb sb (exec m x) nx' vE' vA' w'/\ref.Touch (b::mb::sb::ref.sblk vE) w w')
theorem do_c93{B E b mb sb:Nat}{m:M}{nx:Int}{vE vA:Value}{w:World}(h:PW B E b mb sb m nx vE vA w)(hz:0<m.size)(hf:Fine m)(hsz:m.evs.length<=2000)(hlt:m.steps<m.fuel)(k1:m.regs 17=93):
  Calls Tryz.prog 47 #[.pointer (some ⟨b,0,none⟩),.agg #[.func (.func 136) #[] #[],.int .i64 46,.int .i64 0,.int .i64 0,.int .i64 0,.int .i32 0]] w fun e w'=>e=.panicked (trapV 1)/\∃vE' vA',PW B E b mb sb (stop {m with evs:=m.evs++[⟨93,m.regs 10,(⟨#[]⟩:ByteArray)⟩],steps:=m.steps+1 } 1) ((m.pc+4)%4294967296) vE' vA' w'/\ref.Touch (b::mb::sb::ref.sblk vE) w w':=by
 have hcf:=cf_136
 have lb:b<w.heap.size:=h.lb
 have HN:Hid (PW B E b mb sb m ((m.pc+4)%4294967296) vE vA ((w.setCell ⟨b,34,none⟩ (.int .u32 ((m.pc+4)%4294967296))).alloc (.cells #[.func (.func 136) #[] #[],.int .i64 46,.int .i64 0,.int .i64 0,.int .i64 0,.int .i32 0] 96))):=h.step ((at_next h.p _).other ((ref.Touch.refl [] _).alloc _) sP sP hz) (((ref.Touch.refl _ _).setCell sP _).alloc _) rfl rfl rfl rfl rfl
 have HT0:Hid (ref.Touch [b] w ((w.setCell ⟨b,34,none⟩ (.int .u32 ((m.pc+4)%4294967296))).alloc (.cells #[.func (.func 136) #[] #[],.int .i64 46,.int .i64 0,.int .i64 0,.int .i64 0,.int .i32 0] 96))):=((ref.Touch.refl _ _).setCell sP _).alloc _
 have cpc:w.cell? ⟨b,33,none⟩=some (.int .u32 m.pc):=h.p.cells 33 dC dC
 obtain⟨u,cn⟩:=h.p.there 34 dC
 have fn_:=h.p.free 34
 have HF:Hid (Fine m):=hf
 have st0:=hf.steps
 have st1:m.steps<2000:=by have:=hf.fuel.2;omega
 clear h hf
 go_enter Tryz.func47,Tryz.ntmps47
 go_wp2_with fail
 refine(Calls.mono (c_x HN.out hz HF.out hsz k1 hlt) ?_)
 rintro e w9 ⟨rfl,vE9,vA9,hp9,ht9⟩
 exact⟨rfl,rfl,_,_,hp9,(HT0.out.mono sP).trans ht9⟩
theorem do_cnx{B E b mb sb:Nat}{m:M}{nx:Int}{vE vA:Value}{w:World}(h:PW B E b mb sb m nx vE vA w)(hz:0<m.size)(hf:Fine m)(hsz:m.evs.length<=2000)(hlt:m.steps<m.fuel)(k1:¬m.regs 17=93):
  Calls Tryz.prog 47 #[.pointer (some ⟨b,0,none⟩),.agg #[.func (.func 136) #[] #[],.int .i64 46,.int .i64 0,.int .i64 0,.int .i64 0,.int .i32 0]] w fun e w'=>e=.returned (.tuple #[])/\∃vE' vA',PW B E b mb sb (next (ref.ecd m)) ((m.pc+4)%4294967296) vE' vA' w'/\ref.Touch (b::mb::sb::ref.sblk vE) w w':=by
 have hcf:=cf_136
 have lb:b<w.heap.size:=h.lb
 have HN:Hid (PW B E b mb sb m ((m.pc+4)%4294967296) vE vA ((w.setCell ⟨b,34,none⟩ (.int .u32 ((m.pc+4)%4294967296))).alloc (.cells #[.func (.func 136) #[] #[],.int .i64 46,.int .i64 0,.int .i64 0,.int .i64 0,.int .i32 0] 96))):=h.step ((at_next h.p _).other ((ref.Touch.refl [] _).alloc _) sP sP hz) (((ref.Touch.refl _ _).setCell sP _).alloc _) rfl rfl rfl rfl rfl
 have HT0:Hid (ref.Touch [b] w ((w.setCell ⟨b,34,none⟩ (.int .u32 ((m.pc+4)%4294967296))).alloc (.cells #[.func (.func 136) #[] #[],.int .i64 46,.int .i64 0,.int .i64 0,.int .i64 0,.int .i32 0] 96))):=((ref.Touch.refl _ _).setCell sP _).alloc _
 have cpc:w.cell? ⟨b,33,none⟩=some (.int .u32 m.pc):=h.p.cells 33 dC dC
 obtain⟨u,cn⟩:=h.p.there 34 dC
 have fn_:=h.p.free 34
 have HF:Hid (Fine m):=hf
 have st0:=hf.steps
 have st1:m.steps<2000:=by have:=hf.fuel.2;omega
 clear h hf
 go_enter Tryz.func47,Tryz.ntmps47
 go_wp2_with fail
 refine(Calls.mono (call_p HN.out hz HF.out hsz k1) ?_)
 rintro e w9 ⟨rfl,vE9,vA9,hp9,ht9⟩
 obtain⟨x1,x2,x3⟩:=ref.ecd_pc m k1
 have h2:PW B E b mb sb {(ref.ecd m)with pc:=((m.pc+4)%4294967296),steps:=(ref.ecd m).steps+1 } ((m.pc+4)%4294967296) vE9 vA9 ((w9.setCell ⟨b,33,none⟩ (.int .u32 ((m.pc+4)%4294967296))).setCell ⟨b,39,none⟩ (.int .i64 ((ref.ecd m).steps+1))):=hp9.step (@at_steps B b mb {(ref.ecd m)with pc:=((m.pc+4)%4294967296) } ((m.pc+4)%4294967296) _ _ (at_pc hp9.p ((m.pc+4)%4294967296)) _) (((ref.Touch.refl _ _).setCell sP _).setCell sP _) rfl rfl rfl rfl rfl
 have HA:Hid (PW B E b mb sb (next (ref.ecd m)) ((m.pc+4)%4294967296) vE9 vA9 ((w9.setCell ⟨b,33,none⟩ (.int .u32 ((m.pc+4)%4294967296))).setCell ⟨b,39,none⟩ (.int .i64 (m.steps+1)))):=by
  rw[x2]at h2
  exact h2.congr rfl (by show((ref.ecd m).pc+4)%4294967296=_;rw[x1]) rfl (by show(ref.ecd m).steps+1=_;rw[x2]) rfl rfl rfl rfl rfl rfl rfl rfl rfl rfl
 have HT:Hid (ref.Touch (b::mb::sb::ref.sblk vE) w ((w9.setCell ⟨b,33,none⟩ (.int .u32 ((m.pc+4)%4294967296))).setCell ⟨b,39,none⟩ (.int .i64 (m.steps+1)))):=(((HT0.out.mono sP).trans ht9).setCell sP _).setCell sP _
 have c1:w9.cell? ⟨b,34,none⟩=some (.int .u32 ((m.pc+4)%4294967296)):=hp9.p.cells 34 dC dC
 have c2:w9.cell? ⟨b,39,none⟩=some (.int .i64 m.steps):=(hp9.p.cells 39 dC dC).trans (by rw[<-x2];rfl)
 obtain⟨u3,c3⟩:=hp9.p.there 33 dC
 have g1:=hp9.p.free 33
 have g2:=hp9.p.free 39
 clear hp9 ht9 h2 x1 x2 x3
 go_wp2_with fail
 go_end0
 exact⟨rfl,_,_,HA.out,HT.out⟩
theorem do_all{B E b mb sb:Nat}{m:M}{nx:Int}{vE vA:Value}{w:World}(h:PW B E b mb sb m nx vE vA w)(hg:MGood m)(hlt:m.steps<m.fuel)(hen:m.ended=false)(x:Int)(x0:0<=x)(x1:x<=4294967295)(hx:¬opn x=-1):
  Calls Tryz.prog 47 #[.pointer (some ⟨b,0,none⟩),.agg #[(.func (.func (kofx (opn x))) #[] #[]),.int .i64 (opn x),.int .i64 (qRd x),.int .i64 (qR1 x),.int .i64 (qR2 x),.int .i32 (imm x)]] w (DoQ B E b mb sb m vE x w):=by
 have hsz:m.evs.length<=2000:=by have:=hg.evs;have:=hg.fine.fuel.2;omega
 by_cases c:opn x=46
 ·have ex:=ref.ex_call m x c
  obtain rfl:=opn_46 x c
  rw[show opn 115=46 by decide,show qRd 115=0 by decide,show qR1 115=0 by decide,show qR2 115=0 by decide,show imm 115=0 by decide,show kofx 46=136 by decide]
  by_cases k:m.regs 17=93
  ·have e2:exec m 115=stop {m with evs:=m.evs++[⟨93,m.regs 10,(⟨#[]⟩:ByteArray)⟩],steps:=m.steps+1 } 1:=by rw[ex,ref.ecall_ecd,if_pos k,ref.ecd_93 m k];rfl
   refine(do_c93 h hg.pos hg.fine hsz hlt k).mono ?_
   rintro e w' ⟨rfl,vE',vA',q1,q2⟩
   exact Or.inr ⟨by rw[e2];rfl,by rw[e2];rfl,_,vE',vA',by rw[e2];exact q1,q2⟩
  ·have e2:exec m 115=next (ref.ecd m):=by rw[ex,ref.ecall_ecd,if_neg k]
   refine(do_cnx h hg.pos hg.fine hsz hlt k).mono ?_
   rintro e w' ⟨rfl,vE',vA',q1,q2⟩
   exact Or.inl ⟨by rw[e2];exact(ref.ecd_pc m k).2.2.trans hen,rfl,_,vE',vA',by rw[e2];exact q1,q2⟩
 ·refine(do_exec h.ct hg.pos hg.fine hlt hen x x0 x1 hx c).mono ?_
  obtain⟨r1,r2,r3,r4⟩:=Rows.exec m x c
  obtain⟨f,hk,_⟩:=kx_exec m x hg.fine
  have el:(exec m x).low=m.low:=congrArg Prod.snd (Fx.exec m x).2.2.1
  rintro e w' (⟨q0,rfl,nx',q1,q2⟩|⟨q0,rfl,nx',q1,q2⟩)
  ·exact Or.inl ⟨q0,rfl,nx',vE,vA,h.of q1 q2 r1 r2 el hk.ns hk.ar hk.us,q2.mono sP⟩
  ·exact Or.inr ⟨q0,rfl,nx',vE,vA,h.of q1 q2 r1 r2 el hk.ns hk.ar hk.us,q2.mono sP⟩
end prog
end Go.Proofs.YtjikimpejlmdiaaGreatDoor

import Derived.Test.YtjikimpejlmdiaaGreatDoorZGg
import Derived.Test.YtjikimpejlmdiaaGreatDoorZGn
import Derived.BigQuiet
import Derived.Test.YtjikimpejlmdiaaGreatDoorZGq
set_option maxHeartbeats 4000000
set_option linter.unusedVariables false
set_option linter.unusedSimpArgs false
set_option maxRecDepth 10000
namespace Go.Proofs.YtjikimpejlmdiaaGreatDoor
namespace prog
open ChangeShapes WideShapes ChangeAt RowKit nums dnums mach
attribute [local go_sem ↓] Go.wp_at_zero Go.wp_at_succ
def pm (b:Nat) (f:Int) (w:World):Nat:=match w.cell? ⟨b,39,none⟩with|some (.int _ s)=>(f-s).toNat|_=>0
theorem pm_at{B b mb:Nat}{m:M}{nx:Int}{vX:Nat->Value}{w:World}(h:PAt B b mb m nx vX w)(f:Int):pm b f w=(f-m.steps).toNat:=by
 have h1:w.cell? ⟨b,39,none⟩=some (.int .i64 m.steps):=h.cells 39 dC dC
 unfold pm;rw[h1]
theorem touchE{b mb sb:Nat}{L:List Nat}{u v w:World}(h:ref.Touch [b,mb,sb] u v)(k:ref.Touch (b::mb::sb::L) v w)(hL:∀i,i∈L->u.heap.size<=i):ref.Touch [b,mb,sb] u w:=
 ⟨k.os.trans h.os,k.tape.trans h.tape,k.output.trans h.output,Nat.le_trans h.size k.size,fun i hi hn=>(k.block i (Nat.lt_of_lt_of_le hi h.size) (fun hm=>by
  simp at hm hn
  rcases hm with e|e|e|e
  ·exact hn.1 e
  ·exact hn.2.1 e
  ·exact hn.2.2 e
  ·exact absurd (hL i e) (Nat.not_le.mpr hi))).trans (h.block i hi hn)⟩
theorem loop_any(B E b mb sb g1 g2:Nat)(m0:M)(nx:Int)(vE vA:Value)(w:World)(hE:w.heap.size=E)(h:PW B E b mb sb m0 nx vE vA w)(hmr:MRun m0 m0)(hen:m0.ended=false)
  (hg1:w.cell? ⟨g1,0,none⟩=some (.pointer (some ⟨b,0,none⟩))) (hg2:w.cell? ⟨g2,0,none⟩=some (.int .i64 m0.fuel)) (n1:g1≠b) (n2:g1≠mb) (n3:g2≠b) (n4:g2≠mb) (n5:g1≠sb) (n6:g2≠sb)
  (hT:∀w' x,ref.Touch [b,mb,sb] w w'->decodes.Tabs w' x):
  Calls Tryz.prog 46 #[.pointer (some ⟨g1,0,none⟩),.pointer (some ⟨g2,0,none⟩)] w fun e w'=>∃mF nx' vE' vA',MRun m0 mF/\mF.ended=true/\PW B E b mb sb mF nx' vE' vA' w'/\ref.Touch [b,mb,sb] w w'/\((e=.returned (.tuple #[])/\mF.out=0)\/e=.panicked (trapV mF.out)):=by
 have HTB:Hid (∀w' x,ref.Touch [b,mb,sb] w w'->decodes.Tabs w' x):=hT
 have HP0:Hid (PW B E b mb sb m0 nx vE vA w):=h
 have HM0:Hid (MRun m0 m0):=hmr
 have HEE:Hid (w.heap.size=E):=hE
 have l1:g1<w.heap.size:=World.block_lt_of_cell? _ _ hg1
 have l2:g2<w.heap.size:=World.block_lt_of_cell? _ _ hg2
 clear h hmr hT hE
 go_enter Tryz.func46,Tryz.ntmps46
 go_wp2_with fail
 go_loopw [] (fun wr=>∃m nx vE vA,MRun m0 m/\m.ended=false/\PW B E b mb sb m nx vE vA wr/\ref.Touch [b,mb,sb] w wr) (fun wr=>pm b m0.fuel wr)
 case atStart=>exact⟨m0,nx,vE,vA,HM0.out,hen,HP0.out,ref.Touch.refl _ _⟩
 case round=>
  clear HP0
  clear vE vA nx
  obtain⟨m,nx,vE,vA,hm,he,hp,ht⟩:=hrel
  have c1:wr.cell? ⟨g1,0,none⟩=some (.pointer (some ⟨b,0,none⟩)):=(ht.cell (p:=⟨g1,0,none⟩) l1 (by simp;exact⟨n1,n2,n5⟩)).trans hg1
  have c2:wr.cell? ⟨g2,0,none⟩=some (.int .i64 m0.fuel):=(ht.cell (p:=⟨g2,0,none⟩) l2 (by simp;exact⟨n3,n4,n6⟩)).trans hg2
  have c3:wr.cell? ⟨b,39,none⟩=some (.int .i64 m.steps):=hp.p.cells 39 dC dC
  have HM:Hid (MRun m0 m):=hm
  have HE:Hid (m.ended=false):=he
  have HP:Hid (PW B E b mb sb m nx vE vA wr):=hp
  have HT:Hid (ref.Touch [b,mb,sb] w wr):=ht
  have HLo:Hid (∀i,i∈ref.sblk vE->w.heap.size<=i):=fun i hi=>by rw[HEE.out];exact(ref.own_lt hp.evs i hi).1
  have ef:=hm.fuel
  by_cases hlt:m.steps<m0.fuel
  rotate_left
  ·have hlt2:m0.fuel<=m.steps:=by omega
   have HS:Hid (mach.step m=stop m 0):=(by unfold mach.step;rw[if_pos oM]:mach.step m=stop m 0)
   clear hm he hp ht
   go_wp2_with fail
   go_quiet (fail)
   go_wp2_with fail
   go_end0
   have hs:=(HM.out.step HE.out).1
   rw[HS.out]at hs
   have hpz:0<m.size:=HM.out.good.pos
   have hp2:PW B E b mb sb m nx vE vA (wr.drewN nq):=HP.out.quiet hpz ((ref.Touch.refl [] wr).drewN nq)
   exact⟨stop m 0,nx,vE,vA,hs,rfl,hp2.congr rfl rfl rfl rfl rfl rfl rfl rfl rfl rfl rfl rfl rfl rfl,HT.out.trans ((ref.Touch.refl _ _).drewN nq),Or.inl ⟨rfl,rfl⟩⟩
  ·clear hm he hp ht
   go_wp2_with fail
   go_quiet (fail)
   go_wp2_with fail
   have hpz:0<m.size:=HM.out.good.pos
   have hff:=HM.out.good.fine
   have HPt:Hid (∀w',ref.Touch [] (wr.drewN nq) w'->PW B E b mb sb m nx vE vA w'):=fun w' t=>HP.out.quiet hpz (((ref.Touch.refl [] wr).drewN nq).trans t)
   have HWt:Hid (ref.Touch [b,mb,sb] w (wr.drewN nq)):=HT.out.trans ((ref.Touch.refl _ _).drewN nq)
   have hS0:(wr.drewN nq).drew.cell? ⟨g1,0,none⟩=some (.pointer (some ⟨b,0,none⟩)):=c1
   have lg:g1<(wr.drewN nq).heap.size:=Nat.lt_of_lt_of_le l1 HT.out.size
   obtain⟨k,hk⟩:∃k:Nat,m.pc=k:=⟨m.pc.toNat,by have:=hff.pc.1;omega⟩
   have hs2:=HM.out.step HE.out
   have hltm:m.steps<m.fuel:=by omega
   by_cases ha:(k:Int)%4=0
   rotate_left
   ·have es:mach.step m=stop m 3:=by unfold mach.step;rw[if_neg oM,if_pos oM]
    rw[es]at hs2
    refine wp_region_held_drew (S:=(fun w'=>w'.cell? ⟨g1,0,none⟩=some (.pointer (some ⟨b,0,none⟩)))) kR (hS0) (fun hHeld=> ?_)
    refine tkk 0 8 ?_
    refine tkk 1 9 ?_
    try go_frame
    refine rdy 2 (fun K hK=> ?_)
    go_simp
    refine(Calls.mono (fetch_al (HPt.out _ ((ref.Touch.refl _ _).drew)).p hpz hff k hk ha) ?_)
    rintro e w9 ⟨rfl,ht9⟩
    have hp9:=HPt.out _ (((ref.Touch.refl _ _).drew).trans ht9)
    exact⟨rfl,stop m 3,nx,vE,vA,hs2.1,rfl,hp9.congr rfl rfl rfl rfl rfl rfl rfl rfl rfl rfl rfl rfl rfl rfl,HWt.out.drew.trans (ht9.mono sP),Or.inr rfl⟩
   cases hl:lies m k 4 with
   |false=>
    have es:mach.step m=stop m 4:=by unfold mach.step;rw[if_neg oM,if_neg oM,if_pos (by rw[hk,hl];rfl)]
    rw[es]at hs2
    refine wp_region_held_drew (S:=(fun w'=>w'.cell? ⟨g1,0,none⟩=some (.pointer (some ⟨b,0,none⟩)))) kR (hS0) (fun hHeld=> ?_)
    refine tkk 0 8 ?_
    refine tkk 1 9 ?_
    try go_frame
    refine rdy 2 (fun K hK=> ?_)
    go_simp
    refine(Calls.mono (fetch_fa (HPt.out _ ((ref.Touch.refl _ _).drew)).p hpz hff k hk ha hl) ?_)
    rintro e w9 ⟨rfl,ht9⟩
    have hp9:=HPt.out _ (((ref.Touch.refl _ _).drew).trans ht9)
    exact⟨rfl,stop m 4,nx,vE,vA,hs2.1,rfl,hp9.congr rfl rfl rfl rfl rfl rfl rfl rfl rfl rfl rfl rfl rfl rfl,HWt.out.drew.trans (ht9.mono sP),Or.inr rfl⟩
   |true=>
    have hTx:∀w',ref.Touch [] (wr.drewN nq).drew w'->decodes.Tabs w' (ld m.mem k 4):=fun w' t=>HTB.out w' _ (HWt.out.drew.trans (t.mono sP))
    by_cases hn:opn (ld m.mem k 4)=-1
    ·have es:mach.step m=stop m 2:=by
      unfold mach.step;dsimp only;rw[if_neg oM,if_neg oM,if_neg (by rw[hk,hl];decide),hk,Int.toNat_natCast,if_pos hn]
     rw[es]at hs2
     refine wp_region_held_drew (S:=(fun w'=>w'.cell? ⟨g1,0,none⟩=some (.pointer (some ⟨b,0,none⟩)))) kR (hS0) (fun hHeld=> ?_)
     refine tkk 0 8 ?_
     refine tkk 1 9 ?_
     try go_frame
     refine rdy 2 (fun K hK=> ?_)
     go_simp
     refine(Calls.mono (fetch_no (HPt.out _ ((ref.Touch.refl _ _).drew)).p hpz hff k hk ha hl hTx hn) ?_)
     rintro e w9 ⟨rfl,ht9⟩
     have hp9:=HPt.out _ (((ref.Touch.refl _ _).drew).trans ht9)
     exact⟨rfl,stop m 2,nx,vE,vA,hs2.1,rfl,hp9.congr rfl rfl rfl rfl rfl rfl rfl rfl rfl rfl rfl rfl rfl rfl,HWt.out.drew.trans (ht9.mono sP),Or.inr rfl⟩
    ·have es:mach.step m=exec {m with done:=m.done+1 } (ld m.mem k 4):=by
      unfold mach.step;dsimp only;rw[if_neg oM,if_neg oM,if_neg (by rw[hk,hl];decide),show m.pc.toNat=k by omega,if_neg hn,lost_0' m HM.out.ns,if_neg dC]
     rw[es]at hs2
     refine wp_region_held_drew (S:=(fun w'=>w'.cell? ⟨g1,0,none⟩=some (.pointer (some ⟨b,0,none⟩)))) kR (hS0) (fun hHeld=> ?_)
     refine tkk 0 8 ?_
     refine tkk 1 9 ?_
     try go_frame
     refine rdy 2 (fun K hK=> ?_)
     go_simp
     refine(Calls.mono (fetch_ok (HPt.out _ ((ref.Touch.refl _ _).drew)).p hpz hff k hk ha hl hTx hn (kofx (opn (ld m.mem k 4))) (fun w=>ao_all _ (by have:=ref.opn_bd (ld m.mem k 4);omega) (by have:=ref.opn_bd (ld m.mem k 4);omega) w)) ?_)
     rintro e w7 ⟨rfl,ht7⟩
     have hp7:=HPt.out _ (((ref.Touch.refl _ _).drew).trans ht7)
     have hS7:w7.cell? ⟨g1,0,none⟩=some (.pointer (some ⟨b,0,none⟩)):=(ht7.cell (p:=⟨g1,0,none⟩) lg sP).trans hS0
     refine hK.out _ _ (hS7) (fun hHeld=> ?_)
     clear hK K
     try go_frame
     refine rdy 3 (fun K hK=> ?_)
     go_simp
     refine(Calls.mono (@do_all B E b mb sb {m with done:=m.done+1 } nx vE vA w7 (hp7.congr rfl rfl rfl rfl rfl rfl rfl rfl rfl rfl rfl rfl rfl rfl) (good_done' HM.out.good _) hltm HE.out (ld m.mem k 4) (ld4 m.mem hff.mem k).1 (ld4 m.mem hff.mem k).2 hn) ?_)
     rintro e w8 hq
     have t8x:ref.Touch (b::mb::sb::ref.sblk vE) w7 w8->ref.Touch [b,mb,sb] w w8:=fun t=>touchE (HWt.out.drew.trans (ht7.mono sP)) t HLo.out
     rcases hq with(⟨e1,rfl,nx2,vE2,vA2,hp8,ht8⟩|⟨e1,rfl,nx2,vE2,vA2,hp8,ht8⟩)
     rotate_left
     ·exact⟨rfl,_,nx2,vE2,vA2,hs2.1,e1,hp8,t8x ht8,Or.inr rfl⟩
     have t8:ref.Touch [b,mb,sb] w w8:=t8x ht8
     have hS8:w8.cell? ⟨g1,0,none⟩=some (.pointer (some ⟨b,0,none⟩)):=(t8.cell (p:=⟨g1,0,none⟩) l1 (by simp;exact⟨n1,n2,n5⟩)).trans hg1
     refine hK.out _ _ (hS8) (fun hHeld=> ?_)
     clear hK K
     try go_frame
     refine wpAnyH_done kR ?_ _
     go_wp2_with fail
     go_roundw
     case rel=>exact⟨_,nx2,vE2,vA2,hs2.1,e1,hp8,t8⟩
     case measure=>
      show pm b m0.fuel w8<pm b m0.fuel wr
      rw[pm_at hp8.p,pm_at HP.out.p]
      rcases hs2.2 with q|⟨q,q2⟩
      ·rw[e1]at q;cases q
      ·omega
end prog
namespace prog
open ChangeShapes WideShapes ChangeAt RowKit nums dnums mach
theorem outcome_any(g1 g2:Nat)(w:World)(R:Int->World->Prop)(hC:Calls Tryz.prog 46 #[.pointer (some ⟨g1,0,none⟩),.pointer (some ⟨g2,0,none⟩)] (w.alloc (.cells #[.int .i64 0] 28)) fun e w'=>∃o,R o w'/\w'.cell? ⟨w.heap.size,0,none⟩=some (.int .i64 0)/\w'.frozen? ⟨w.heap.size,0,none⟩=false/\((e=.returned (.tuple #[])/\o=0)\/e=.panicked (trapV o))):
  Calls Tryz.prog 45 #[.func (.func 46) #[] #[.pointer (some ⟨g1,0,none⟩),.pointer (some ⟨g2,0,none⟩)]] w fun e w'=>∃o w1,e=.returned (.int .i64 o)/\R o w1/\ref.Touch [w.heap.size] w1 w':=by
 have hmf:∀(fn:Fn) (first cap:Array Value) (w:World),(Instr.makeFunc fn first cap).run Tryz.prog w=.ok (.func fn first cap) w:=fun _ _ _ _=>rfl
 have HC:Hid (Calls Tryz.prog 46 #[.pointer (some ⟨g1,0,none⟩),.pointer (some ⟨g2,0,none⟩)] (w.alloc (.cells #[.int .i64 0] 28)) fun e w'=>∃o,R o w'/\w'.cell? ⟨w.heap.size,0,none⟩=some (.int .i64 0)/\w'.frozen? ⟨w.heap.size,0,none⟩=false/\((e=.returned (.tuple #[])/\o=0)\/e=.panicked (trapV o))):=hC
 clear hC
 go_enter_defers Tryz.func45,Tryz.ntmps45
 go_wp2_with fail
 refine(Calls.mono HC.out ?_)
 rintro e w1 ⟨o,hr,hc,hz,(⟨rfl,rfl⟩|rfl)⟩
 ·have HR:Hid (R 0 w1):=hr
  clear hr
  go_wp2_with fail
  refine leaves_cons (f:=73) (args:=#[.pointer (some ⟨w.heap.size,0,none⟩)]) sP (by simp[go_sem]) ?_
  refine(catch_idle w.heap.size _).mono ?_
  rintro e u' w2 ⟨rfl,rfl,rfl⟩
  simp[Leaves,settle,results,Tryz.results45,go_sem,hc,hz]
  exact⟨w1,HR.out,(ref.Touch.refl _ _).setCell sP _⟩
 ·have HR:Hid (R o w1):=hr
  clear hr
  go_wp2_with fail
  refine leaves_cons (f:=73) (args:=#[.pointer (some ⟨w.heap.size,0,none⟩)]) sP (by simp[go_sem]) ?_
  refine(catch_trap w.heap.size _ o _ hc hz).mono ?_
  rintro e u' w2 ⟨rfl,rfl,rfl⟩
  have l1:w.heap.size<w1.heap.size:=World.block_lt_of_cell? _ _ hc
  simp[Leaves,settle,results,Tryz.results45,go_sem,hc,hz,l1]
  exact⟨w1,HR.out,((ref.Touch.refl _ _).setCell sP _).alloc _⟩
theorem touchNew{S T:List Nat}{u v w:World}(h:ref.Touch S u v)(k:ref.Touch T v w)(hT:∀i,i∈T->u.heap.size<=i):ref.Touch S u w:=
 ⟨k.os.trans h.os,k.tape.trans h.tape,k.output.trans h.output,Nat.le_trans h.size k.size,fun i hi hn=>(k.block i (Nat.lt_of_lt_of_le hi h.size) (fun hm=>absurd (hT i hm) (Nat.not_le.mpr hi))).trans (h.block i hi hn)⟩
theorem interp_any(B b mb sb:Nat)(m0:M)(nx:Int)(vA:Value)(w:World)(h:PW B w.heap.size b mb sb m0 nx (.slice none 0 0) vA w)(hmr:MRun m0 m0)(hen:m0.ended=false)(hev:m0.evs=[])
  (hT:∀w' x,ref.Touch [b,mb,sb] w w'->decodes.Tabs w' x):
  Calls Tryz.prog 31 #[.pointer (some ⟨b,0,none⟩),.int .i64 m0.fuel] w fun e w'=>∃mF nx' vE' vA',e=.returned (.int .i64 mF.out)/\MRun m0 mF/\mF.ended=true/\PW B w.heap.size b mb sb mF nx' vE' vA' w'/\ref.Touch [b,mb,sb] w w':=by
 have hmf:∀(fn:Fn) (first cap:Array Value) (w:World),(Instr.makeFunc fn first cap).run Tryz.prog w=.ok (.func fn first cap) w:=fun _ _ _ _=>rfl
 have hz:0<m0.size:=hmr.good.pos
 have lb:b<w.heap.size:=h.lb
 have lm:mb<w.heap.size:=World.block_lt_of_cell? _ _ (h.p.bytes 0 hz)
 have lsb:=h.ls
 have tI:ref.Touch [] w (((w.alloc (.cells #[.pointer (some ⟨b,0,none⟩)] 67)).alloc (.cells #[.int .i64 m0.fuel] 3)).alloc (.cells #[.int .i64 0] 28)):=(((ref.Touch.refl _ _).alloc _).alloc _).alloc _
 have h3:=h.quiet hz tI
 have hloop:=loop_any B (((w.alloc (.cells #[.pointer (some ⟨b,0,none⟩)] 67)).alloc (.cells #[.int .i64 m0.fuel] 3)).alloc (.cells #[.int .i64 0] 28)).heap.size b mb sb w.heap.size (w.heap.size+1) m0 nx (.slice none 0 0) vA (((w.alloc (.cells #[.pointer (some ⟨b,0,none⟩)] 67)).alloc (.cells #[.int .i64 m0.fuel] 3)).alloc (.cells #[.int .i64 0] 28)) rfl
  ⟨h3.p,Nat.le_trans h3.be tI.size,Nat.le_refl _,by rw[hev];exact World.ownsRow_nil _ _ _ _,h3.ans,by simp[ref.sblk],CAt.none _ _ _ _ _ hmr.ns,h3.hsb,h3.ls⟩ hmr hen
  (by rw[World.cell?_alloc_past _ _ _ (by simp;omega),World.cell?_alloc_past _ _ _ sP,World.cell?_alloc_at _ _ _ _ rfl];rfl)
  (by rw[World.cell?_alloc_past _ _ _ sP,World.cell?_alloc_at _ _ _ _ sP];rfl)
  oM oM oM oM oM oM (fun w' x t=>hT w' x ((tI.mono sP).trans t))
 have HO:Hid (_):=outcome_any w.heap.size (w.heap.size+1) ((w.alloc (.cells #[.pointer (some ⟨b,0,none⟩)] 67)).alloc (.cells #[.int .i64 m0.fuel] 3)) (fun o w'=>∃mF nx' vE' vA',o=mF.out/\MRun m0 mF/\mF.ended=true/\PW B (((w.alloc (.cells #[.pointer (some ⟨b,0,none⟩)] 67)).alloc (.cells #[.int .i64 m0.fuel] 3)).alloc (.cells #[.int .i64 0] 28)).heap.size b mb sb mF nx' vE' vA' w'/\ref.Touch [b,mb,sb] w w') (hloop.mono (by
  rintro e w' ⟨mF,nx',vE',vA',q1,q2,q3,q4,q5⟩
  have e1:w'.cell? ⟨((w.alloc (.cells #[.pointer (some ⟨b,0,none⟩)] 67)).alloc (.cells #[.int .i64 m0.fuel] 3)).heap.size,0,none⟩=some (.int .i64 0):=(q4.cell (p:=⟨((w.alloc (.cells #[.pointer (some ⟨b,0,none⟩)] 67)).alloc (.cells #[.int .i64 m0.fuel] 3)).heap.size,0,none⟩) sP (by simp;omega)).trans (World.cell?_alloc_at _ _ _ _ rfl)
  have e2:w'.frozen? ⟨((w.alloc (.cells #[.pointer (some ⟨b,0,none⟩)] 67)).alloc (.cells #[.int .i64 m0.fuel] 3)).heap.size,0,none⟩=false:=(q4.frozen (p:=⟨((w.alloc (.cells #[.pointer (some ⟨b,0,none⟩)] 67)).alloc (.cells #[.int .i64 m0.fuel] 3)).heap.size,0,none⟩) sP (by simp;omega)).trans (World.frozen?_alloc_at _ _ _ _ rfl)
  exact⟨mF.out,⟨mF,nx',vE',vA',rfl,q1,q2,q3,(tI.mono sP).trans q4⟩,e1,e2,q5⟩))
 clear h hmr hT hloop h3
 go_enter Tryz.func31,Tryz.ntmps31
 go_wp2_with fail
 refine(Calls.mono HO.out ?_)
 rintro e w' ⟨o,w1,rfl,⟨mF,nx',vE',vA',rfl,q1,q2,q3,q4⟩,q5⟩
 have HQ:Hid (MRun m0 mF/\mF.ended=true/\PW B (((w.alloc (.cells #[.pointer (some ⟨b,0,none⟩)] 67)).alloc (.cells #[.int .i64 m0.fuel] 3)).alloc (.cells #[.int .i64 0] 28)).heap.size b mb sb mF nx' vE' vA' w1/\ref.Touch [b,mb,sb] w w1):=⟨q1,q2,q3,q4⟩
 have HT5:Hid (ref.Touch [((w.alloc (.cells #[.pointer (some ⟨b,0,none⟩)] 67)).alloc (.cells #[.int .i64 m0.fuel] 3)).heap.size] w1 w'):=q5
 clear q1 q2 q3 q4 q5
 go_wp2_with fail
 go_ret
 have l1:w.heap.size<=w1.heap.size:=HQ.out.2.2.2.size
 have nb:b∉[((w.alloc (.cells #[.pointer (some ⟨b,0,none⟩)] 67)).alloc (.cells #[.int .i64 m0.fuel] 3)).heap.size]:=by simp;omega
 have nm:mb∉[((w.alloc (.cells #[.pointer (some ⟨b,0,none⟩)] 67)).alloc (.cells #[.int .i64 m0.fuel] 3)).heap.size]:=by simp;omega
 have hq:=HQ.out.2.2.1
 have hz2:w.heap.size<=(((w.alloc (.cells #[.pointer (some ⟨b,0,none⟩)] 67)).alloc (.cells #[.int .i64 m0.fuel] 3)).alloc (.cells #[.int .i64 0] 28)).heap.size:=tI.size
 refine⟨mF,nx',vE',vA',by simp[go_sem],HQ.out.1,HQ.out.2.1,⟨hq.p.other HT5.out nb nm HQ.out.1.good.pos, ?_,Nat.le_trans l1 HT5.out.size, ?_, ?_,hq.dE,CAt.none _ _ _ _ _ HQ.out.1.ns,hq.hsb,Nat.lt_of_lt_of_le hq.ls HT5.out.size⟩, ?_⟩
 ·have:=hq.p.hb;omega
 ·refine ref.own_base (ref.own_touch hq.evs HT5.out (fun k hk=> ?_)) hz2
  have:=(ref.own_lt hq.evs k hk).1
  simp at this ⊢
  omega
 ·exact hq.ans.below (HT5.out.below hq.bs (by have:=hq.p.hb;simp;omega))
 ·exact touchNew HQ.out.2.2.2 HT5.out (by simp;omega)
end prog
end Go.Proofs.YtjikimpejlmdiaaGreatDoor

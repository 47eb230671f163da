import Derived.Test.YtjikimpejlmdiaaGreatDoorZHc
set_option maxHeartbeats 4000000
set_option linter.unusedVariables false
set_option linter.unusedSimpArgs false
set_option maxRecDepth 10000
namespace Go.Proofs.YtjikimpejlmdiaaGreatDoor
theorem XD0{p:Prop}(h:p:=by
 have hm2:count m.blocks pc len bu en=(([]:List Blk)++⟨pc,len,bu,en⟩::([]:List Blk)):=by
  rw[HM.out]
  simp[hnil]
 have HM2:Hid (count m.blocks pc len bu en=(([]:List Blk)++⟨pc,len,bu,en⟩::([]:List Blk))):=hm2
 clear hm2
 go_wp2_with (first|(at_builtin;refine wpList_append_none rF _ _ rF 0 0 _ none _ rF rF oM ?_)|(at_builtin;(refine wpList_append_lies _ rF _ _ _ rF B 44 i0 _ 4 32 Tryz.underlying36 hi hz0 hz1 hz2 rF dC (.slice none 0 0) 0 ([]:List Value) rF (World.ownsRow_nil _ _ _ _) ⟨X.heap.size,0,none⟩ 1 1 [Value.int .u32 pc,Value.int .i64 len,Value.int .i64 bu,Value.int .i64 en] rF rF (World.news_of_block (heap_alloc_new X _)) oC dC mL oM (by have:=HBs.out;have:=HXs.out;simp;omega) (X.heap.size+1) sP ?_);intro g4 cap4 w4 hown hgrow hat hlt4;have HO4:Hid (w4.ownsRow B 44 4 (.slice (some ⟨g4,0,none⟩) 1 cap4) 1 [Value.int .u32 pc,Value.int .i64 len,Value.int .i64 bu,Value.int .i64 en]):=hown;have T4:Hid (Touch [] w w4):=tnew (TX.out.alloc _) (touch_grown hgrow) (by simp[sblk]);have hg4:w.heap.size+1<=g4:=(by have:=HXs.out;rcases hat with q|q;(· simp[Value.ownBlock]at q);omega);have c450:w4.cell? ⟨b,50,none⟩=some (.slice (some ⟨g,0,none⟩) m.blocks.length cb):=(T4.out.cell (p:=⟨b,50,none⟩) lb sP).trans c50;have f450:w4.frozen? ⟨b,50,none⟩=false:=(T4.out.frozen (p:=⟨b,50,none⟩) lb sP).trans f50;have hs4:w.heap.size+1<=w4.heap.size:=(by have hq:=hgrow.size;have:=HXs.out;simp at hq;omega);have hc4:1<=cap4:=row_cap4 hown;clear hown hgrow hat hlt4)|(at_builtin;refine wpList_append_none rF _ _ rF 1 cap4 _ (some ⟨g4,0,none⟩) _ rF rF hc4 ?_))
 go_end0
 refine⟨rfl,(.slice (some ⟨g4,0,none⟩) 1 cap4), ?_⟩
 rw[HM2.out]
 refine Whole.newblk HH.out hz T4.out _ _ ?_ (by simp[sblk];omega)
 have ho:=HO4.out
 have hcs:blkCells (([]:List Blk)++⟨pc,len,bu,en⟩::([]:List Blk))=[Value.int .u32 pc,Value.int .i64 len,Value.int .i64 bu,Value.int .i64 en]:=by simp[blkCells]
 rw[hcs]
 have hlen:(([]:List Blk)++⟨pc,len,bu,en⟩::([]:List Blk)).length=1:=by simp<;>omega
 rw[hlen]
 exact ho):p:=h
theorem XD1{p:Prop}(h:p:=by
 go_end0
 refine⟨rfl,(.slice (some ⟨g4,0,none⟩) (j2+1) cap4), ?_⟩
 rw[HM2.out]
 refine Whole.newblk HH.out hz T4.out _ _ ?_ (by simp[sblk];omega)
 have ho:=HO4.out
 have hcs:blkCells (m.blocks.take j2++⟨pc,len,bu,en⟩::([]:List Blk))=((blkCells (m.blocks.take j2))++[Value.int .u32 pc,Value.int .i64 len,Value.int .i64 bu,Value.int .i64 en]):=by simp[blkCells]
 rw[hcs]
 have hlen:(m.blocks.take j2++⟨pc,len,bu,en⟩::([]:List Blk)).length=(j2+1):=by simp<;>omega
 rw[hlen]
 exact ho):p:=h
theorem XD2{p:Prop}(h:p:=by(repeat' (first|with_reducible exact Touch.refl _ _|with_reducible apply Touch.drew|with_reducible apply Touch.drewN|with_reducible apply Touch.alloc|with_reducible apply Touch.setCell))<;>(first|(simp;done))):p:=h
theorem XD3{p:Prop}(h:p:=by have:=HXs.out;rcases hat with q|q;(· simp[Value.ownBlock]at q;omega);omega):p:=h
theorem XD4{p:Prop}(h:p:=by have:=HXs.out;rcases hat with q|q;(· simp[Value.ownBlock]at q);omega):p:=h
theorem XD5{p:Prop}(h:p:=by rcases hat with q|q;(· simp[Value.ownBlock]at q;omega);omega):p:=h
theorem XD6{p:Prop}(h:p:=by rw[<-hX];exact(((Touch.refl _ _).alloc _).drewN _).drewN _):p:=h
theorem XD7{p:Prop}(h:p:=by have hq:=hgrow.size;have:=HXs.out;simp at hq;omega):p:=h
theorem XD8{p:Prop}(h:p:=by have:=HXs.out;show w.heap.size<X.heap.size;omega):p:=h
theorem XD9{p:Prop}(h:p:=by have:=HBs.out;have:=HXs.out;simp;omega):p:=h
theorem XDa{p:Prop}(h:p:=by have:=hgrow.size;have:=HXs.out;omega):p:=h
theorem XDb{p:Prop}(h:p:=by have:=HBs.out;have:=HXs.out;omega):p:=h
theorem XDc{p:Prop}(h:p:=by simp[sblk];omega):p:=h
theorem XDd{p:Prop}(h:p:=by simp[sblk]):p:=h
namespace ref
open ChangeShapes WideShapes ChangeAt RowKit nums dnums mach
attribute [local go_sem ↓] Go.wp_at_zero Go.wp_at_succ
theorem count_be(bu en:Int)(hbe:(bu=1/\en=0)\/(bu=0/\en=1))(B b mb:Nat)(m:M)(vE vA vS vB:Value)(w:World)(h:Whole B b mb m vE vA vS vB w)(hz:0<m.size)(pc len:Int)(p0:0<=pc)(p1:pc<=4294967295)(hlb:m.blocks.length<=5000)(hsort:m.blocks.Pairwise (fun a b=>a.pc<b.pc))(hbd:∀x∈m.blocks,0<=x.built/\x.built<=5000/\0<=x.entered/\x.entered<=5000):
  Calls Tryz.prog 78 #[.pointer (some ⟨b,0,none⟩),.agg #[.int .u32 pc,.int .i64 len],.int .i64 bu,.int .i64 en] w (CntQ B b mb {m with blocks:=count m.blocks pc len bu en } vE vA vS vB w):=by
 have HBE:Hid ((bu=1/\en=0)\/(bu=0/\en=1)):=hbe
 clear hbe
 have HH:Hid (Whole B b mb m vE vA vS vB w):=h
 have lb:b<w.heap.size:=World.block_lt_of_cell? _ _ h.ref.data
 have c50:w.cell? ⟨b,50,none⟩=some vB:=h.ref.cells 50 dC dC
 have f50:=h.ref.free 50
 obtain⟨i0,hi,hz0,hz1,hz2⟩:=info_parts info_blk
 have HBs:Hid (B<=w.heap.size):=(by have:=h.ref.hb;omega:B<=w.heap.size)
 obtain⟨ob,cb,hvB,hcb,hcm⟩:∃ob cb,vB=.slice ob m.blocks.length cb/\m.blocks.length<=cb/\(m.blocks.length=0->True):=by
  rcases h.blks.2 with⟨h1,h0⟩|⟨g,cap,cur,h1,_,_,hn,_⟩
  ·exact⟨none,0,by rw[h1,h0],by omega,fun _=>trivial⟩
  ·exact⟨_,_,h1,hn,fun _=>trivial⟩
 subst hvB
 clear h hcm
 go_enter Tryz.func78,Tryz.ntmps78
 go_wp2_with fail
 go_loopw [8] (fun i wr=>∃j:Nat,j<=m.blocks.length/\i=.int .i64 j/\(∀x∈m.blocks.take j,¬x.pc=pc)/\∃n,wr=(w.alloc (.cells #[.int .u32 pc,.int .i64 len] 77)).drewN n) (fun i _=>m.blocks.length-(intOf i).toNat)
 case atStart=>exact⟨0,by omega,rfl,by simp,0,rfl⟩
 case round=>
  obtain⟨j,hj,rfl,hno,n,rfl⟩:=hrel
  by_cases hlt:j<m.blocks.length
  ·obtain⟨y,hy⟩:∃y,m.blocks[j]?=some y:=⟨_,List.getElem?_eq_getElem hlt⟩
   obtain⟨g,cg,hv,e0,e1,e2,e3⟩:=row_blk HH.out.blks j y hy
   injection hv with hv hv2 hv3
   clear hv2
   subst hv
   subst hv3
   have lg:g<w.heap.size:=World.block_lt_of_cell? _ _ e0
   have q1:(j:Int)<(m.blocks.length:Int):=by omega
   have q2:(0:Int)<=(j:Int):=by omega
   by_cases hy2:y.pc=pc
   ·rcases HBE.out with⟨rfl,rfl⟩|⟨rfl,rfl⟩
    ·have d1:(y.pc==pc)=true:=by simpa using hy2
     have fg:=row_free HH.out.blks
     have f1:=fg (j*4+1)
     have f2:=fg (j*4+2)
     have f3:=fg (j*4+3)
     obtain⟨u0,u1,u2,u3⟩:=hbd y (List.mem_of_getElem? hy)
     have k1:IntKind.i64.wrap (y.built+1)=y.built+1:=by rw[IntKind.wrap_i64];omega
     have k2:IntKind.i64.wrap (y.entered+0)=y.entered+0:=by rw[IntKind.wrap_i64];omega
     clear fg
     have nbg:¬b=g:=fun e=>((HH.out.dB g XDd).1 e.symm)
     have ngb:¬g=b:=fun e=>nbg e.symm
     go_wp2_with fail
     go_quiet (fail)
     go_wp2_with fail
     go_region
     go_wp2_with fail
     go_region
     go_wp2_with fail
     go_region
     go_wp2_with fail
     have hcs:blkCells (m.blocks.set j {y with len:=if(0:Int)<1 then len else y.len,built:=y.built+1,entered:=y.entered+0 })=((((blkCells m.blocks).set (j*4+1) (.int .i64 len)).set (j*4+2) (.int .i64 (y.built+1))).set (j*4+3) (.int .i64 y.entered)):=by
      rw[blkCells_set _ _ _ hlt]
      simp only[Int.zero_lt_one,if_true,Int.add_zero]
      rw[set_same _ _ _ (blkCells_get _ j y hy).1]
     have hch:=count_hit m.blocks pc len 1 0 j y hy hy2 hsort
     refine bodyPost_ret (results_none rfl _ _ _) rfl ⟨rfl,.slice (some ⟨g,0,none⟩) m.blocks.length cb, ?_⟩
     rw[hch]
     refine Whole.blk HH.out hz (g:=g) XDd ?_ _ ?_
     ·exact XD2
     ·rw[hcs,List.length_set]
      exact own_touch (S:=[]) (own_set (own_set (own_set (own_touch (S:=[]) HH.out.blks (((Touch.refl _ _).alloc _).drewN _) sP) (j*4+1) oM (.int .i64 len)) (j*4+2) oM (.int .i64 (y.built+1))) (j*4+3) oM (.int .i64 y.entered)) ((Touch.refl _ _).drew.drew) sP
    ·have d1:(y.pc==pc)=true:=by simpa using hy2
     have fg:=row_free HH.out.blks
     have f1:=fg (j*4+1)
     have f2:=fg (j*4+2)
     have f3:=fg (j*4+3)
     obtain⟨u0,u1,u2,u3⟩:=hbd y (List.mem_of_getElem? hy)
     have k1:IntKind.i64.wrap (y.built+0)=y.built+0:=by rw[IntKind.wrap_i64];omega
     have k2:IntKind.i64.wrap (y.entered+1)=y.entered+1:=by rw[IntKind.wrap_i64];omega
     clear fg
     have nbg:¬b=g:=fun e=>((HH.out.dB g XDd).1 e.symm)
     have ngb:¬g=b:=fun e=>nbg e.symm
     go_wp2_with fail
     go_quiet (fail)
     go_wp2_with fail
     go_region
     go_wp2_with fail
     go_region
     go_wp2_with fail
     have hcs:blkCells (m.blocks.set j {y with len:=if(0:Int)<0 then len else y.len,built:=y.built+0,entered:=y.entered+1 })=(((blkCells m.blocks).set (j*4+2) (.int .i64 y.built)).set (j*4+3) (.int .i64 (y.entered+1))):=by
      rw[blkCells_set _ _ _ hlt]
      simp only[Int.lt_irrefl,if_false,Int.add_zero]
      rw[set_same _ _ _ (blkCells_get _ j y hy).1,set_same _ _ _ (blkCells_get _ j y hy).2.1]
     have hch:=count_hit m.blocks pc len 0 1 j y hy hy2 hsort
     refine bodyPost_ret (results_none rfl _ _ _) rfl ⟨rfl,.slice (some ⟨g,0,none⟩) m.blocks.length cb, ?_⟩
     rw[hch]
     refine Whole.blk HH.out hz (g:=g) XDd ?_ _ ?_
     ·exact XD2
     ·rw[hcs,List.length_set]
      exact own_touch (S:=[]) (own_set (own_set (own_touch (S:=[]) HH.out.blks (((Touch.refl _ _).alloc _).drewN _) sP) (j*4+2) oM (.int .i64 y.built)) (j*4+3) oM (.int .i64 (y.entered+1))) ((Touch.refl _ _).drew) sP
   ·have d1:(y.pc==pc)=false:=by simpa using hy2
    go_wp2_with fail
    go_quiet (fail)
    go_wp2_with fail
    go_roundw
    case rel=>
     refine⟨j+1,by omega,by simp,fun t ht=> ?_,_,rfl⟩
     rw[List.take_add_one,hy]at ht
     simp at ht
     rcases ht with ht|rfl
     ·exact hno t ht
     ·exact hy2
    case measure=>simp[intOf];omega
  ·have q1:(m.blocks.length:Int)<=(j:Int):=by omega
   have HNO:Hid (∀x∈m.blocks,¬x.pc=pc):=fun x hx=>hno x (by rw[show j=m.blocks.length by omega,List.take_length];exact hx)
   clear hno
   go_wp2_with fail
   go_loopw [10] (fun i wr=>∃j2:Nat,j2<=m.blocks.length/\i=.int .i64 j2/\(∀x∈m.blocks.take j2,x.pc<pc)/\∃n,wr=(w.alloc (.cells #[.int .u32 pc,.int .i64 len] 77)).drewN n) (fun i _=>m.blocks.length-(intOf i).toNat)
   case atStart=>exact⟨0,by omega,rfl,by simp,n,rfl⟩
   case round=>
    obtain⟨j2,hj2,rfl,hlo,n2,rfl⟩:=hrel
    by_cases hl2:j2<m.blocks.length
    ·obtain⟨y,hy⟩:∃y,m.blocks[j2]?=some y:=⟨_,List.getElem?_eq_getElem hl2⟩
     obtain⟨g,cg,hv,e0,e1,e2,e3⟩:=row_blk HH.out.blks j2 y hy
     injection hv with hv hv2 hv3
     clear hv2
     subst hv
     subst hv3
     have lg:g<w.heap.size:=World.block_lt_of_cell? _ _ e0
     have q3:(j2:Int)<(m.blocks.length:Int):=by omega
     have q4:(0:Int)<=(j2:Int):=by omega
     by_cases hy2:y.pc<pc
     ·go_wp2_with fail
      go_quiet (fail)
      go_wp2_with fail
      go_roundw
      case rel=>
       refine⟨j2+1,by omega,by simp,fun t ht=> ?_,_,rfl⟩
       rw[List.take_add_one,hy]at ht
       simp at ht
       rcases ht with ht|rfl
       ·exact hlo t ht
       ·exact hy2
      case measure=>simp[intOf];omega
     ·have d2:decide (y.pc<pc)=false:=by simpa using hy2
      have HM:Hid (count m.blocks pc len bu en=m.blocks.take j2++⟨pc,len,bu,en⟩::m.blocks.drop j2):=count_miss m.blocks pc len bu en j2 HNO.out hj2 hlo (fun x hx=>by rw[hy]at hx;injection hx with hx;subst hx;exact hy2)
      clear hlo
      go_wp2_with fail
      go_quiet (fail)
      generalize hX:((w.alloc (.cells #[.int .u32 pc,.int .i64 len] 77)).drewN n2).drewN nq=X
      have TX:Hid (Touch [] w X):=XD6
      have HXs:Hid (X.heap.size=w.heap.size+1):=(by rw[<-hX];simp:X.heap.size=w.heap.size+1)
      have cX50:X.cell? ⟨b,50,none⟩=some (.slice (some ⟨g,0,none⟩) m.blocks.length cb):=(TX.out.cell (p:=⟨b,50,none⟩) lb sP).trans c50
      have fX50:X.frozen? ⟨b,50,none⟩=false:=(TX.out.frozen (p:=⟨b,50,none⟩) lb sP).trans f50
      have pX0:X.cell? ⟨w.heap.size,0,none⟩=some (.int .u32 pc):=by rw[<-hX];exact World.cell?_alloc_at _ _ _ _ rfl
      have pX1:X.cell? ⟨w.heap.size,1,none⟩=some (.int .i64 len):=by rw[<-hX];exact World.cell?_alloc_at _ _ _ _ rfl
      clear hX
      have HG:Hid (∀i u,(blkCells m.blocks)[i]?=some u->∀w',Touch [] w w'->w'.cell? ⟨g,i,none⟩=some u):=fun i u hu w' t=>(t.cell (p:=⟨g,i,none⟩) lg sP).trans (row_get HH.out.blks i u hu)
      have jc:j2<=cb:=by omega
      have jc2:¬cb=j2:=by omega
      have jc3:(j2:Int)<=(cb:Int):=by omega
      have HLT:Hid ((blkCells (m.blocks.take j2)).length=j2*4):=(by rw[blkCells_len,List.length_take];omega:(blkCells (m.blocks.take j2)).length=j2*4)
      have jc4:(j2:Int)<=(m.blocks.length:Int):=by omega
      by_cases hz0j:j2=0
      ·subst hz0j
       have hz0j:(0:Nat)=0:=rfl
       have HLD:Hid ((blkCells m.blocks).length=m.blocks.length*4):=blkCells_len _
       have hm2:count m.blocks pc len bu en=(([]:List Blk)++⟨pc,len,bu,en⟩::m.blocks):=by
        rw[HM.out]
        simp
       have HM2:Hid (count m.blocks pc len bu en=(([]:List Blk)++⟨pc,len,bu,en⟩::m.blocks)):=hm2
       clear hm2
       go_wp2_with (first|(at_builtin;refine wpList_append_none rF _ _ rF 0 0 _ none _ rF rF oM ?_)|(at_builtin;(refine wpList_append_lies _ rF _ _ _ rF B 44 i0 _ 4 32 Tryz.underlying36 hi hz0 hz1 hz2 rF dC (.slice none 0 0) 0 ([]:List Value) rF (World.ownsRow_nil _ _ _ _) ⟨X.heap.size,0,none⟩ 1 1 [Value.int .u32 pc,Value.int .i64 len,Value.int .i64 bu,Value.int .i64 en] rF rF (World.news_of_block (heap_alloc_new X _)) oC dC mL oM XD9 (X.heap.size+1) sP ?_);intro g4 cap4 w4 hown hgrow hat hlt4;have HO4:Hid (w4.ownsRow B 44 4 (.slice (some ⟨g4,0,none⟩) 1 cap4) 1 [Value.int .u32 pc,Value.int .i64 len,Value.int .i64 bu,Value.int .i64 en]):=hown;have T4:Hid (Touch [] w w4):=tnew (TX.out.alloc _) (touch_grown hgrow) XDd;have hg4:w.heap.size+1<=g4:=XD4;have c450:w4.cell? ⟨b,50,none⟩=some (.slice (some ⟨g,0,none⟩) m.blocks.length cb):=(T4.out.cell (p:=⟨b,50,none⟩) lb sP).trans c50;have f450:w4.frozen? ⟨b,50,none⟩=false:=(T4.out.frozen (p:=⟨b,50,none⟩) lb sP).trans f50;have hs4:w.heap.size+1<=w4.heap.size:=XD7;have hc4:1<=cap4:=row_cap4 hown;clear hown hgrow hat hlt4)|(at_builtin;(refine wpList_append_lies _ rF _ _ _ rF B 44 i0 _ 4 32 Tryz.underlying36 hi hz0 hz1 hz2 rF dC (.slice (some ⟨g4,0,none⟩) 1 cap4) 1 [Value.int .u32 pc,Value.int .i64 len,Value.int .i64 bu,Value.int .i64 en] rF HO4.out ⟨g,0,none⟩ m.blocks.length cb (blkCells m.blocks) rF HLD.out (fun i u hu=>by rw[add_mk,Nat.zero_add];exact HG.out _ u hu w4 T4.out) (blkCells_one _) oM mL oM (by have:=HBs.out;omega) w4.heap.size rfl ?_);intro g5 cap5 w5 hown hgrow hat hlt5;have HO5:Hid (w5.ownsRow B 44 4 (.slice (some ⟨g5,0,none⟩) (1+m.blocks.length) cap5) (1+m.blocks.length) ([Value.int .u32 pc,Value.int .i64 len,Value.int .i64 bu,Value.int .i64 en]++blkCells m.blocks)):=hown;have T5:Hid (Touch [] w w5):=tnew T4.out (touch_grown hgrow) XDc;have hg5:w.heap.size+1<=g5:=XD5;have c550:w5.cell? ⟨b,50,none⟩=some (.slice (some ⟨g,0,none⟩) m.blocks.length cb):=(T5.out.cell (p:=⟨b,50,none⟩) lb sP).trans c50;have f550:w5.frozen? ⟨b,50,none⟩=false:=(T5.out.frozen (p:=⟨b,50,none⟩) lb sP).trans f50;clear hown hgrow hat hlt5))
       go_end0
       refine⟨rfl,(.slice (some ⟨g5,0,none⟩) (1+m.blocks.length) cap5), ?_⟩
       rw[HM2.out]
       refine Whole.newblk HH.out hz T5.out _ _ ?_ XDc
       have ho:=HO5.out
       have hcs:blkCells (([]:List Blk)++⟨pc,len,bu,en⟩::m.blocks)=[Value.int .u32 pc,Value.int .i64 len,Value.int .i64 bu,Value.int .i64 en]++blkCells m.blocks:=by simp[blkCells]
       rw[hcs]
       have hlen:(([]:List Blk)++⟨pc,len,bu,en⟩::m.blocks).length=1+m.blocks.length:=by simp<;>omega
       rw[hlen]
       exact ho
      ·have HLD:Hid ((blkCells (m.blocks.drop j2)).length=(m.blocks.length-j2)*4):=(by rw[blkCells_len,List.length_drop]:(blkCells (m.blocks.drop j2)).length=(m.blocks.length-j2)*4)
       have hm2:count m.blocks pc len bu en=(m.blocks.take j2++⟨pc,len,bu,en⟩::m.blocks.drop j2):=by
        rw[HM.out]

       have HM2:Hid (count m.blocks pc len bu en=(m.blocks.take j2++⟨pc,len,bu,en⟩::m.blocks.drop j2)):=hm2
       clear hm2
       go_wp2_with (first|(at_builtin;(refine wpList_append_lies _ rF _ _ _ rF B 44 i0 _ 4 32 Tryz.underlying36 hi hz0 hz1 hz2 rF dC (.slice none 0 0) 0 [] rF (World.ownsRow_nil _ _ _ _) ⟨g,0,none⟩ j2 cb (blkCells (m.blocks.take j2)) rF HLT.out (fun i u hu=>by rw[add_mk,Nat.zero_add];exact HG.out i u (blkCells_tk _ _ hj2 i u hu) X TX.out) (blkCells_one _) oM mL oM XDb X.heap.size rfl ?_);intro g3 cap3 w3 hown hgrow hat hlt3;rw[Nat.zero_add]at hown;rw[List.nil_append]at hown;rw[Nat.zero_add];have HO3:Hid (w3.ownsRow B 44 4 (.slice (some ⟨g3,0,none⟩) j2 cap3) j2 (blkCells (m.blocks.take j2))):=hown;have T3:Hid (Touch [] w w3):=tnew TX.out (touch_grown hgrow) XDd;have hg3:w.heap.size+1<=g3:=XD4;have c350:w3.cell? ⟨b,50,none⟩=some (.slice (some ⟨g,0,none⟩) m.blocks.length cb):=(T3.out.cell (p:=⟨b,50,none⟩) lb sP).trans c50;have p30:w3.cell? ⟨w.heap.size,0,none⟩=some (.int .u32 pc):=((touch_grown hgrow).cell (p:=⟨w.heap.size,0,none⟩) XD8 XDd).trans pX0;have p31:w3.cell? ⟨w.heap.size,1,none⟩=some (.int .i64 len):=((touch_grown hgrow).cell (p:=⟨w.heap.size,1,none⟩) XD8 XDd).trans pX1;have hs3:w.heap.size+1<=w3.heap.size:=XDa;clear hown hgrow hat hlt3)|(at_builtin;(refine wpList_append_lies _ rF _ _ _ rF B 44 i0 _ 4 32 Tryz.underlying36 hi hz0 hz1 hz2 rF dC (.slice (some ⟨g3,0,none⟩) j2 cap3) j2 (blkCells (m.blocks.take j2)) rF (HO3.out.alloc _) ⟨w3.heap.size,0,none⟩ 1 1 [Value.int .u32 pc,Value.int .i64 len,Value.int .i64 bu,Value.int .i64 en] rF rF (World.news_of_block (heap_alloc_new w3 _)) oC dC mL oM XD9 (w3.heap.size+1) sP ?_);intro g4 cap4 w4 hown hgrow hat hlt4;have HO4:Hid (w4.ownsRow B 44 4 (.slice (some ⟨g4,0,none⟩) (j2+1) cap4) (j2+1) ((blkCells (m.blocks.take j2))++[Value.int .u32 pc,Value.int .i64 len,Value.int .i64 bu,Value.int .i64 en])):=hown;have T4:Hid (Touch [] w w4):=tnew (T3.out.alloc _) (touch_grown hgrow) XDc;have hg4:w.heap.size+1<=g4:=XD3;have c450:w4.cell? ⟨b,50,none⟩=some (.slice (some ⟨g,0,none⟩) m.blocks.length cb):=(T4.out.cell (p:=⟨b,50,none⟩) lb sP).trans c50;have f450:w4.frozen? ⟨b,50,none⟩=false:=(T4.out.frozen (p:=⟨b,50,none⟩) lb sP).trans f50;have hs4:w.heap.size+1<=w4.heap.size:=XD7;have hc4:(j2+1)<=cap4:=row_cap4 hown;clear hown hgrow hat hlt4)|(at_builtin;(refine wpList_append_lies _ rF _ _ _ rF B 44 i0 _ 4 32 Tryz.underlying36 hi hz0 hz1 hz2 rF dC (.slice (some ⟨g4,0,none⟩) (j2+1) cap4) (j2+1) ((blkCells (m.blocks.take j2))++[Value.int .u32 pc,Value.int .i64 len,Value.int .i64 bu,Value.int .i64 en]) rF HO4.out ⟨g,j2*4,none⟩ (m.blocks.length-j2) (cb-j2) (blkCells (m.blocks.drop j2)) rF HLD.out (fun i u hu=>by rw[add_mk];exact HG.out _ u (blkCells_dr _ _ hj2 i u hu) w4 T4.out) (blkCells_one _) oM mL oM (by have:=HBs.out;omega) w4.heap.size rfl ?_);intro g5 cap5 w5 hown hgrow hat hlt5;have HO5:Hid (w5.ownsRow B 44 4 (.slice (some ⟨g5,0,none⟩) ((j2+1)+(m.blocks.length-j2)) cap5) ((j2+1)+(m.blocks.length-j2)) (((blkCells (m.blocks.take j2))++[Value.int .u32 pc,Value.int .i64 len,Value.int .i64 bu,Value.int .i64 en])++blkCells (m.blocks.drop j2))):=hown;have T5:Hid (Touch [] w w5):=tnew T4.out (touch_grown hgrow) XDc;have hg5:w.heap.size+1<=g5:=XD5;have c550:w5.cell? ⟨b,50,none⟩=some (.slice (some ⟨g,0,none⟩) m.blocks.length cb):=(T5.out.cell (p:=⟨b,50,none⟩) lb sP).trans c50;have f550:w5.frozen? ⟨b,50,none⟩=false:=(T5.out.frozen (p:=⟨b,50,none⟩) lb sP).trans f50;clear hown hgrow hat hlt5))
       go_end0
       refine⟨rfl,(.slice (some ⟨g5,0,none⟩) ((j2+1)+(m.blocks.length-j2)) cap5), ?_⟩
       rw[HM2.out]
       refine Whole.newblk HH.out hz T5.out _ _ ?_ XDc
       have ho:=HO5.out
       have hcs:blkCells (m.blocks.take j2++⟨pc,len,bu,en⟩::m.blocks.drop j2)=((blkCells (m.blocks.take j2))++[Value.int .u32 pc,Value.int .i64 len,Value.int .i64 bu,Value.int .i64 en])++blkCells (m.blocks.drop j2):=by simp[blkCells]
       rw[hcs]
       have hlen:(m.blocks.take j2++⟨pc,len,bu,en⟩::m.blocks.drop j2).length=(j2+1)+(m.blocks.length-j2):=by simp<;>omega
       rw[hlen]
       exact ho
    ·have q3:(m.blocks.length:Int)<=(j2:Int):=by omega
     have HM:Hid (count m.blocks pc len bu en=m.blocks.take j2++⟨pc,len,bu,en⟩::m.blocks.drop j2):=count_miss m.blocks pc len bu en j2 HNO.out hj2 hlo (fun x hx=>by rw[List.getElem?_eq_none oM]at hx;cases hx)
     have hfj:m.blocks.drop j2=[]:=List.drop_eq_nil_of_le oM
     clear hlo
     by_cases hn0:m.blocks.length=0
     ·have hnil:m.blocks=[]:=List.eq_nil_of_length_eq_zero hn0
      obtain rfl:j2=0:=by omega
      rcases HH.out.blks.2 with⟨h1,_⟩|⟨g,cap,cur,h1,_⟩
      ·injection h1 with h1 _ h3
       subst h1
       subst h3
       go_wp2_with fail
       go_quiet (fail)
       generalize hX:((w.alloc (.cells #[.int .u32 pc,.int .i64 len] 77)).drewN n2).drewN nq=X
       have TX:Hid (Touch [] w X):=XD6
       have HXs:Hid (X.heap.size=w.heap.size+1):=(by rw[<-hX];simp:X.heap.size=w.heap.size+1)
       have cX50:X.cell? ⟨b,50,none⟩=some (.slice none m.blocks.length 0):=(TX.out.cell (p:=⟨b,50,none⟩) lb sP).trans c50
       have fX50:X.frozen? ⟨b,50,none⟩=false:=(TX.out.frozen (p:=⟨b,50,none⟩) lb sP).trans f50
       have pX0:X.cell? ⟨w.heap.size,0,none⟩=some (.int .u32 pc):=by rw[<-hX];exact World.cell?_alloc_at _ _ _ _ rfl
       have pX1:X.cell? ⟨w.heap.size,1,none⟩=some (.int .i64 len):=by rw[<-hX];exact World.cell?_alloc_at _ _ _ _ rfl
       clear hX
       have hm2:count m.blocks pc len bu en=(([]:List Blk)++⟨pc,len,bu,en⟩::([]:List Blk)):=by
        rw[HM.out]
        simp[hnil]
       have HM2:Hid (count m.blocks pc len bu en=(([]:List Blk)++⟨pc,len,bu,en⟩::([]:List Blk))):=hm2
       clear hm2
       go_wp2_with (first|(at_builtin;refine wpList_append_none rF _ _ rF 0 0 _ none _ rF rF oM ?_)|(at_builtin;(refine wpList_append_lies _ rF _ _ _ rF B 44 i0 _ 4 32 Tryz.underlying36 hi hz0 hz1 hz2 rF dC (.slice none 0 0) 0 ([]:List Value) rF (World.ownsRow_nil _ _ _ _) ⟨X.heap.size,0,none⟩ 1 1 [Value.int .u32 pc,Value.int .i64 len,Value.int .i64 bu,Value.int .i64 en] rF rF (World.news_of_block (heap_alloc_new X _)) oC dC mL oM XD9 (X.heap.size+1) sP ?_);intro g4 cap4 w4 hown hgrow hat hlt4;have HO4:Hid (w4.ownsRow B 44 4 (.slice (some ⟨g4,0,none⟩) 1 cap4) 1 [Value.int .u32 pc,Value.int .i64 len,Value.int .i64 bu,Value.int .i64 en]):=hown;have T4:Hid (Touch [] w w4):=tnew (TX.out.alloc _) (touch_grown hgrow) XDd;have hg4:w.heap.size+1<=g4:=XD4;have c450:w4.cell? ⟨b,50,none⟩=some (.slice none m.blocks.length 0):=(T4.out.cell (p:=⟨b,50,none⟩) lb sP).trans c50;have f450:w4.frozen? ⟨b,50,none⟩=false:=(T4.out.frozen (p:=⟨b,50,none⟩) lb sP).trans f50;have hs4:w.heap.size+1<=w4.heap.size:=XD7;have hc4:1<=cap4:=row_cap4 hown;clear hown hgrow hat hlt4)|(at_builtin;refine wpList_append_none rF _ _ rF 1 cap4 _ (some ⟨g4,0,none⟩) _ rF rF hc4 ?_))
       go_end0
       refine⟨rfl,(.slice (some ⟨g4,0,none⟩) 1 cap4), ?_⟩
       rw[HM2.out]
       refine Whole.newblk HH.out hz T4.out _ _ ?_ XDc
       have ho:=HO4.out
       have hcs:blkCells (([]:List Blk)++⟨pc,len,bu,en⟩::([]:List Blk))=[Value.int .u32 pc,Value.int .i64 len,Value.int .i64 bu,Value.int .i64 en]:=by simp[blkCells]
       rw[hcs]
       have hlen:(([]:List Blk)++⟨pc,len,bu,en⟩::([]:List Blk)).length=1:=by simp<;>omega
       rw[hlen]
       exact ho
      ·injection h1 with h1 _ h3
       subst h1
       go_wp2_with fail
       go_quiet (fail)
       generalize hX:((w.alloc (.cells #[.int .u32 pc,.int .i64 len] 77)).drewN n2).drewN nq=X
       have TX:Hid (Touch [] w X):=XD6
       have HXs:Hid (X.heap.size=w.heap.size+1):=(by rw[<-hX];simp:X.heap.size=w.heap.size+1)
       have cX50:X.cell? ⟨b,50,none⟩=some (.slice (some ⟨g,0,none⟩) m.blocks.length cb):=(TX.out.cell (p:=⟨b,50,none⟩) lb sP).trans c50
       have fX50:X.frozen? ⟨b,50,none⟩=false:=(TX.out.frozen (p:=⟨b,50,none⟩) lb sP).trans f50
       have pX0:X.cell? ⟨w.heap.size,0,none⟩=some (.int .u32 pc):=by rw[<-hX];exact World.cell?_alloc_at _ _ _ _ rfl
       have pX1:X.cell? ⟨w.heap.size,1,none⟩=some (.int .i64 len):=by rw[<-hX];exact World.cell?_alloc_at _ _ _ _ rfl
       clear hX
       by_cases hcj:cb=0
       ·have hcj2:cb-0=0:=by omega
        exact XD0
       ·have hcj2:¬cb-0=0:=by omega
        exact XD0
     ·obtain⟨y,hy⟩:∃y,m.blocks[0]?=some y:=⟨_,List.getElem?_eq_getElem oM⟩
      obtain⟨g,cg,hv,e0,e1,e2,e3⟩:=row_blk HH.out.blks 0 y hy
      injection hv with hv hv2 hv3
      clear hv2 e1 e2 e3
      subst hv
      subst hv3
      have lg:g<w.heap.size:=World.block_lt_of_cell? _ _ e0
      clear e0
      go_wp2_with fail
      go_quiet (fail)
      generalize hX:((w.alloc (.cells #[.int .u32 pc,.int .i64 len] 77)).drewN n2).drewN nq=X
      have TX:Hid (Touch [] w X):=XD6
      have HXs:Hid (X.heap.size=w.heap.size+1):=(by rw[<-hX];simp:X.heap.size=w.heap.size+1)
      have cX50:X.cell? ⟨b,50,none⟩=some (.slice (some ⟨g,0,none⟩) m.blocks.length cb):=(TX.out.cell (p:=⟨b,50,none⟩) lb sP).trans c50
      have fX50:X.frozen? ⟨b,50,none⟩=false:=(TX.out.frozen (p:=⟨b,50,none⟩) lb sP).trans f50
      have pX0:X.cell? ⟨w.heap.size,0,none⟩=some (.int .u32 pc):=by rw[<-hX];exact World.cell?_alloc_at _ _ _ _ rfl
      have pX1:X.cell? ⟨w.heap.size,1,none⟩=some (.int .i64 len):=by rw[<-hX];exact World.cell?_alloc_at _ _ _ _ rfl
      clear hX
      have HG:Hid (∀i u,(blkCells m.blocks)[i]?=some u->∀w',Touch [] w w'->w'.cell? ⟨g,i,none⟩=some u):=fun i u hu w' t=>(t.cell (p:=⟨g,i,none⟩) lg sP).trans (row_get HH.out.blks i u hu)
      have jc3:(j2:Int)<=(cb:Int):=by omega
      have jc:j2<=cb:=by omega
      have jc4:(0:Int)<=(j2:Int):=by omega
      have jc5:(j2:Int)<=(m.blocks.length:Int):=by omega
      have jc6:m.blocks.length-j2=0:=by omega
      have HLT:Hid ((blkCells (m.blocks.take j2)).length=j2*4):=(by rw[blkCells_len,List.length_take];omega:(blkCells (m.blocks.take j2)).length=j2*4)
      by_cases hcj:cb=j2
      ·have hcj':=hcj.symm
       subst hcj'
       have hm2:count m.blocks pc len bu en=(m.blocks.take j2++⟨pc,len,bu,en⟩::([]:List Blk)):=by
        rw[HM.out]
        simp[hfj]
       have HM2:Hid (count m.blocks pc len bu en=(m.blocks.take j2++⟨pc,len,bu,en⟩::([]:List Blk))):=hm2
       clear hm2
       go_wp2_with (first|(at_builtin;(refine wpList_append_lies _ rF _ _ _ rF B 44 i0 _ 4 32 Tryz.underlying36 hi hz0 hz1 hz2 rF dC (.slice none 0 0) 0 [] rF (World.ownsRow_nil _ _ _ _) ⟨g,0,none⟩ j2 j2 (blkCells (m.blocks.take j2)) rF HLT.out (fun i u hu=>by rw[add_mk,Nat.zero_add];exact HG.out i u (blkCells_tk _ _ hj2 i u hu) X TX.out) (blkCells_one _) oM mL oM XDb X.heap.size rfl ?_);intro g3 cap3 w3 hown hgrow hat hlt3;rw[Nat.zero_add]at hown;rw[List.nil_append]at hown;rw[Nat.zero_add];have HO3:Hid (w3.ownsRow B 44 4 (.slice (some ⟨g3,0,none⟩) j2 cap3) j2 (blkCells (m.blocks.take j2))):=hown;have T3:Hid (Touch [] w w3):=tnew TX.out (touch_grown hgrow) XDd;have hg3:w.heap.size+1<=g3:=XD4;have c350:w3.cell? ⟨b,50,none⟩=some (.slice (some ⟨g,0,none⟩) m.blocks.length j2):=(T3.out.cell (p:=⟨b,50,none⟩) lb sP).trans c50;have p30:w3.cell? ⟨w.heap.size,0,none⟩=some (.int .u32 pc):=((touch_grown hgrow).cell (p:=⟨w.heap.size,0,none⟩) XD8 XDd).trans pX0;have p31:w3.cell? ⟨w.heap.size,1,none⟩=some (.int .i64 len):=((touch_grown hgrow).cell (p:=⟨w.heap.size,1,none⟩) XD8 XDd).trans pX1;have hs3:w.heap.size+1<=w3.heap.size:=XDa;clear hown hgrow hat hlt3)|(at_builtin;(refine wpList_append_lies _ rF _ _ _ rF B 44 i0 _ 4 32 Tryz.underlying36 hi hz0 hz1 hz2 rF dC (.slice (some ⟨g3,0,none⟩) j2 cap3) j2 (blkCells (m.blocks.take j2)) rF (HO3.out.alloc _) ⟨w3.heap.size,0,none⟩ 1 1 [Value.int .u32 pc,Value.int .i64 len,Value.int .i64 bu,Value.int .i64 en] rF rF (World.news_of_block (heap_alloc_new w3 _)) oC dC mL oM XD9 (w3.heap.size+1) sP ?_);intro g4 cap4 w4 hown hgrow hat hlt4;have HO4:Hid (w4.ownsRow B 44 4 (.slice (some ⟨g4,0,none⟩) (j2+1) cap4) (j2+1) ((blkCells (m.blocks.take j2))++[Value.int .u32 pc,Value.int .i64 len,Value.int .i64 bu,Value.int .i64 en])):=hown;have T4:Hid (Touch [] w w4):=tnew (T3.out.alloc _) (touch_grown hgrow) XDc;have hg4:w.heap.size+1<=g4:=XD3;have c450:w4.cell? ⟨b,50,none⟩=some (.slice (some ⟨g,0,none⟩) m.blocks.length j2):=(T4.out.cell (p:=⟨b,50,none⟩) lb sP).trans c50;have f450:w4.frozen? ⟨b,50,none⟩=false:=(T4.out.frozen (p:=⟨b,50,none⟩) lb sP).trans f50;have hs4:w.heap.size+1<=w4.heap.size:=XD7;have hc4:(j2+1)<=cap4:=row_cap4 hown;clear hown hgrow hat hlt4)|(at_builtin;refine wpList_append_none rF _ _ rF (j2+1) cap4 _ (some ⟨g4,0,none⟩) _ rF rF hc4 ?_))
       exact XD1
      ·have hcj2:¬cb-j2=0:=by omega
       have hm2:count m.blocks pc len bu en=(m.blocks.take j2++⟨pc,len,bu,en⟩::([]:List Blk)):=by
        rw[HM.out]
        simp[hfj]
       have HM2:Hid (count m.blocks pc len bu en=(m.blocks.take j2++⟨pc,len,bu,en⟩::([]:List Blk))):=hm2
       clear hm2
       go_wp2_with (first|(at_builtin;(refine wpList_append_lies _ rF _ _ _ rF B 44 i0 _ 4 32 Tryz.underlying36 hi hz0 hz1 hz2 rF dC (.slice none 0 0) 0 [] rF (World.ownsRow_nil _ _ _ _) ⟨g,0,none⟩ j2 cb (blkCells (m.blocks.take j2)) rF HLT.out (fun i u hu=>by rw[add_mk,Nat.zero_add];exact HG.out i u (blkCells_tk _ _ hj2 i u hu) X TX.out) (blkCells_one _) oM mL oM XDb X.heap.size rfl ?_);intro g3 cap3 w3 hown hgrow hat hlt3;rw[Nat.zero_add]at hown;rw[List.nil_append]at hown;rw[Nat.zero_add];have HO3:Hid (w3.ownsRow B 44 4 (.slice (some ⟨g3,0,none⟩) j2 cap3) j2 (blkCells (m.blocks.take j2))):=hown;have T3:Hid (Touch [] w w3):=tnew TX.out (touch_grown hgrow) XDd;have hg3:w.heap.size+1<=g3:=XD4;have c350:w3.cell? ⟨b,50,none⟩=some (.slice (some ⟨g,0,none⟩) m.blocks.length cb):=(T3.out.cell (p:=⟨b,50,none⟩) lb sP).trans c50;have p30:w3.cell? ⟨w.heap.size,0,none⟩=some (.int .u32 pc):=((touch_grown hgrow).cell (p:=⟨w.heap.size,0,none⟩) XD8 XDd).trans pX0;have p31:w3.cell? ⟨w.heap.size,1,none⟩=some (.int .i64 len):=((touch_grown hgrow).cell (p:=⟨w.heap.size,1,none⟩) XD8 XDd).trans pX1;have hs3:w.heap.size+1<=w3.heap.size:=XDa;clear hown hgrow hat hlt3)|(at_builtin;(refine wpList_append_lies _ rF _ _ _ rF B 44 i0 _ 4 32 Tryz.underlying36 hi hz0 hz1 hz2 rF dC (.slice (some ⟨g3,0,none⟩) j2 cap3) j2 (blkCells (m.blocks.take j2)) rF (HO3.out.alloc _) ⟨w3.heap.size,0,none⟩ 1 1 [Value.int .u32 pc,Value.int .i64 len,Value.int .i64 bu,Value.int .i64 en] rF rF (World.news_of_block (heap_alloc_new w3 _)) oC dC mL oM XD9 (w3.heap.size+1) sP ?_);intro g4 cap4 w4 hown hgrow hat hlt4;have HO4:Hid (w4.ownsRow B 44 4 (.slice (some ⟨g4,0,none⟩) (j2+1) cap4) (j2+1) ((blkCells (m.blocks.take j2))++[Value.int .u32 pc,Value.int .i64 len,Value.int .i64 bu,Value.int .i64 en])):=hown;have T4:Hid (Touch [] w w4):=tnew (T3.out.alloc _) (touch_grown hgrow) XDc;have hg4:w.heap.size+1<=g4:=XD3;have c450:w4.cell? ⟨b,50,none⟩=some (.slice (some ⟨g,0,none⟩) m.blocks.length cb):=(T4.out.cell (p:=⟨b,50,none⟩) lb sP).trans c50;have f450:w4.frozen? ⟨b,50,none⟩=false:=(T4.out.frozen (p:=⟨b,50,none⟩) lb sP).trans f50;have hs4:w.heap.size+1<=w4.heap.size:=XD7;have hc4:(j2+1)<=cap4:=row_cap4 hown;clear hown hgrow hat hlt4)|(at_builtin;refine wpList_append_none rF _ _ rF (j2+1) cap4 _ (some ⟨g4,0,none⟩) _ rF rF hc4 ?_))
       exact XD1
theorem count_10{B b mb:Nat}{m:M}{vE vA vS vB:Value}{w:World}(h:Whole B b mb m vE vA vS vB w)(hz:0<m.size)(pc len:Int)(p0:0<=pc)(p1:pc<=4294967295)(hlb:m.blocks.length<=5000)(hsort:m.blocks.Pairwise (fun a b=>a.pc<b.pc))(hbd:∀x∈m.blocks,0<=x.built/\x.built<=5000/\0<=x.entered/\x.entered<=5000):
  Calls Tryz.prog 78 #[.pointer (some ⟨b,0,none⟩),.agg #[.int .u32 pc,.int .i64 len],.int .i64 1,.int .i64 0] w (CntQ B b mb {m with blocks:=count m.blocks pc len 1 0 } vE vA vS vB w):=
 count_be 1 0 (Or.inl ⟨rfl,rfl⟩) B b mb m vE vA vS vB w h hz pc len p0 p1 hlb hsort hbd
theorem count_01{B b mb:Nat}{m:M}{vE vA vS vB:Value}{w:World}(h:Whole B b mb m vE vA vS vB w)(hz:0<m.size)(pc len:Int)(p0:0<=pc)(p1:pc<=4294967295)(hlb:m.blocks.length<=5000)(hsort:m.blocks.Pairwise (fun a b=>a.pc<b.pc))(hbd:∀x∈m.blocks,0<=x.built/\x.built<=5000/\0<=x.entered/\x.entered<=5000):
  Calls Tryz.prog 78 #[.pointer (some ⟨b,0,none⟩),.agg #[.int .u32 pc,.int .i64 len],.int .i64 0,.int .i64 1] w (CntQ B b mb {m with blocks:=count m.blocks pc len 0 1 } vE vA vS vB w):=
 count_be 0 1 (Or.inr ⟨rfl,rfl⟩) B b mb m vE vA vS vB w h hz pc len p0 p1 hlb hsort hbd
end ref
namespace ref
open ChangeShapes WideShapes ChangeAt RowKit nums dnums mach
attribute [local go_sem ↓] Go.wp_at_zero Go.wp_at_succ
end ref
end Go.Proofs.YtjikimpejlmdiaaGreatDoor

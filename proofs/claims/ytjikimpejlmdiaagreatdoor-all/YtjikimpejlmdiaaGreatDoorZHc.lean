import Derived.Test.YtjikimpejlmdiaaGreatDoorZGj
import Derived.BigQuiet
import Derived.Test.YtjikimpejlmdiaaGreatDoorZGh
import Derived.BigRegion
import Derived.Deep.AppendLies
import Derived.Deep.RegionHeld3
set_option maxHeartbeats 4000000
set_option linter.unusedVariables false
set_option linter.unusedSimpArgs false
set_option maxRecDepth 10000
namespace Go.Proofs.YtjikimpejlmdiaaGreatDoor
theorem Xr0{p:Prop}(h:p:=by
 go_wp2_with (first|(go_at_call 52;refine(load_4 (HH.out _ HBj.out.t) q hx z5 HF.out.mem).mono ?_;rintro e w' ⟨rfl,hw'⟩;subst w')|(go_at_call 38;refine(decodes.dref_any (ld m.mem q 4) x0 x1 _).mono ?_;rintro e w1 ⟨rfl,hbel⟩;have HB1:Hid (BlkAt w k j w1):=HBj.out.step (Touch.of_below hbel);have r0:=HB1.out.r0;have r1:=HB1.out.r1;have f0:=HB1.out.f0;have f1:=HB1.out.f1;have b0:=HB1.out.b0;have b1:=HB1.out.b1;have g1:=HB1.out.g1;have l0:=World.block_lt_of_cell? _ _ r0;have l1:=World.block_lt_of_cell? _ _ b0;rw[dec_raw _ hn];unfold ins;clear hbel)|(go_at_call 104;refine(ends_any (opn (ld m.mem q 4)) _).mono ?_;rintro e w' ⟨rfl,hw'⟩;subst w';rw[he]))
 refine bodyPost_ret (v:=.agg #[.int .u32 (k:Int),.int .i64 N]) ?_ rfl ⟨rfl, ?_⟩
 ·rw[HL.out];simp[results,Tryz.results77,go_sem,r0,r1,b0,b1,f0,f1,g1,l0,l1]
 ·(repeat' (first|with_reducible exact HB1.out.t|with_reducible apply Touch.alloc|with_reducible apply touchC))<;>(first|(simp;done)|(simp;omega))):p:=h
theorem Xr1{p:Prop}(h:p:=by rw[HL.out];simp[results,Tryz.results77,go_sem,r0,r1,b0,b1,f0,f1,g1,l0,l1]):p:=h
theorem Xr2{p:Prop}(h:p:=by
 go_enter Tryz.func104,Tryz.ntmps104
 go_wp2
 go_ret
 exact⟨by first|rfl|(simp;done)|(simp;omega)|simp_all,rfl⟩):p:=h
namespace ref
open ChangeShapes WideShapes ChangeAt RowKit nums dnums mach
attribute [local go_sem ↓] Go.wp_at_zero Go.wp_at_succ
theorem ends_any(op:Int)(w:World):Calls Tryz.prog 104 #[.int .i64 op] w fun e w'=>e=.returned (.bool (ends op))/\w'=w:=by
 by_cases h1:2<=op
 ·by_cases h2:op<=9
  ·have e:ends op=true:=by simp[ends,h1,h2]
   exact Xr2
  ·by_cases h3:op=46
   ·have e:ends op=true:=by simp[ends,h3]
    subst h3
    exact Xr2
   ·have e:ends op=decide (op=47):=by simp[ends,h2,h3]
    go_enter Tryz.func104,Tryz.ntmps104
    go_wp2
    go_ret
    exact⟨by(by_cases q:op=47<;>simp_all),rfl⟩
 ·have e:ends op=false:=by simp[ends,h1];omega
  exact Xr2
structure BlkAt (w:World) (k j:Nat) (wr:World):Prop where
 t:Touch [] w wr
 r0:wr.cell? ⟨w.heap.size,0,none⟩=some (.int .u32 0)
 r1:wr.cell? ⟨w.heap.size,1,none⟩=some (.int .i64 0)
 f0:wr.frozen? ⟨w.heap.size,0,none⟩=false
 f1:wr.frozen? ⟨w.heap.size,1,none⟩=false
 b0:wr.cell? ⟨w.heap.size+1,0,none⟩=some (.int .u32 k)
 b1:wr.cell? ⟨w.heap.size+1,1,none⟩=some (.int .i64 j)
 g1:wr.frozen? ⟨w.heap.size+1,1,none⟩=false
theorem BlkAt.step {w:World}{k j:Nat}{wr w':World}(h:BlkAt w k j wr)(t:Touch [] wr w'):BlkAt w k j w':=by
 have l0:=World.block_lt_of_cell? _ _ h.r0
 have l1:=World.block_lt_of_cell? _ _ h.b0
 exact⟨h.t.trans t,(t.cell (p:=⟨w.heap.size,0,none⟩) l0 sP).trans h.r0,(t.cell (p:=⟨w.heap.size,1,none⟩) l0 sP).trans h.r1,(t.frozen (p:=⟨w.heap.size,0,none⟩) l0 sP).trans h.f0,(t.frozen (p:=⟨w.heap.size,1,none⟩) l0 sP).trans h.f1,(t.cell (p:=⟨w.heap.size+1,0,none⟩) l1 sP).trans h.b0,(t.cell (p:=⟨w.heap.size+1,1,none⟩) l1 sP).trans h.b1,(t.frozen (p:=⟨w.heap.size+1,1,none⟩) l1 sP).trans h.g1⟩
theorem BlkAt.set {w:World}{k j:Nat}{wr:World}(h:BlkAt w k j wr):BlkAt w k (j+1) (wr.setCell ⟨w.heap.size+1,1,none⟩ (.int .i64 ((j:Int)+1))):=by
 refine⟨⟨h.t.os,h.t.tape,h.t.output,by simpa [World.setCell]using h.t.size,fun i hi hn=>(Below.heap_setCell wr ⟨w.heap.size+1,1,none⟩ _ i (by show i≠w.heap.size+1;omega)).trans (h.t.block i hi hn)⟩, ?_, ?_, ?_, ?_, ?_, ?_, ?_⟩
 ·rw[World.cell?_setCell_other _ _ _ _ sP];exact h.r0
 ·rw[World.cell?_setCell_other _ _ _ _ sP];exact h.r1
 ·rw[World.frozen?_setCell];exact h.f0
 ·rw[World.frozen?_setCell];exact h.f1
 ·rw[World.cell?_setCell_other _ _ _ _ sP];exact h.b0
 ·rw[World.cell?_setCell_same _ _ _ h.b1];rfl
 ·rw[World.frozen?_setCell];exact h.g1
def bm (g:Nat) (w:World):Nat:=match w.cell? ⟨g,1,none⟩with|some (.int _ n)=>(8-n).toNat|_=>0
theorem bm_at{w:World}{k j:Nat}{wr:World}(h:BlkAt w k j wr):bm (w.heap.size+1) wr=8-j:=by
 unfold bm;rw[h.b1];simp<;>omega
theorem touchC{u v:World}{a:Addr}{x:Value}(h:Touch [] u v)(ha:u.heap.size<=a.block):Touch [] u (v.setCell a x):=
 ⟨h.os,h.tape,h.output,by simpa [World.setCell]using h.size,fun k hk hn=>(Below.heap_setCell v a x k oM).trans (h.block k hk hn)⟩
theorem block_any{B b mb:Nat}{m:M}{vE vA vS vB:Value}{w:World}(h:RefAt B b mb m vE vA vS vB w)(hz:0<m.size)(hf:Fine m)(h64:m.size%64=0)(k:Nat)(ha:k%4=0)(hk:k+4<=m.size):
  Calls Tryz.prog 77 #[.pointer (some ⟨b,0,none⟩),.int .u32 (k:Int)] w fun e w'=>e=.returned (.agg #[.int .u32 (k:Int),.int .i64 (blockLen m.mem 8 k)])/\Touch [] w w':=by
 have HH:Hid (∀w',Touch [] w w'->RefAt B b mb m vE vA vS vB w'):=fun w' t=>h.other t sP sP hz
 have HF:Hid (Fine m):=hf
 have z5:=hf.size
 obtain⟨N,hN⟩:∃N,blockLen m.mem 8 k=N:=⟨_,rfl⟩
 have HN0:Hid (N=((0:Nat):Int)+blockLen m.mem (8-0) ((k:Nat):Int)):=(by rw[<-hN];simp:N=((0:Nat):Int)+blockLen m.mem (8-0) ((k:Nat):Int))
 rw[hN]
 clear hN
 have HB0:Hid (BlkAt w k 0 ((w.alloc (.cells #[.int .u32 0,.int .i64 0] 77)).alloc (.cells #[.int .u32 (k:Int),.int .i64 0] 77))):=⟨((Touch.refl _ _).alloc _).alloc _,by rw[World.cell?_alloc_past _ _ _ sP,World.cell?_alloc_at _ _ _ _ rfl];rfl,by rw[World.cell?_alloc_past _ _ _ sP,World.cell?_alloc_at _ _ _ _ rfl];rfl,by rw[World.frozen?_alloc_past _ _ _ sP];exact World.frozen?_alloc_at _ _ _ _ rfl,by rw[World.frozen?_alloc_past _ _ _ sP];exact World.frozen?_alloc_at _ _ _ _ rfl,by rw[World.cell?_alloc_at _ _ _ _ sP];rfl,by rw[World.cell?_alloc_at _ _ _ _ sP];rfl,World.frozen?_alloc_at _ _ _ _ sP⟩
 clear h hf
 go_enter Tryz.func77,Tryz.ntmps77
 go_wp2_with fail
 go_loopw [1] (fun i wr=>∃j q:Nat,j<=8/\q=k+4*j/\i=.int .u32 (q:Int)/\BlkAt w k j wr/\(j<8->q+4<=m.size)/\N=(j:Int)+blockLen m.mem (8-j) (q:Int)) (fun _ wr=>bm (w.heap.size+1) wr)
 case atStart=>exact⟨0,k,by omega,by omega,rfl,HB0.out,fun _=>by omega,HN0.out⟩
 case round=>
  obtain⟨j,q,hj,hq,rfl,hb,hin,hlen⟩:=hrel
  have HBj:Hid (BlkAt w k j wr):=hb
  by_cases hlt:j<8
  rotate_left
  ·obtain rfl:j=8:=by omega
   have HL:Hid (N=8):=(by rw[hlen];simp[blockLen]:N=8)
   have r0:=hb.r0
   have r1:=hb.r1
   have f0:=hb.f0
   have f1:=hb.f1
   have b0:=hb.b0
   have b1:=hb.b1
   have g1:=hb.g1
   have l0:=World.block_lt_of_cell? _ _ r0
   have l1:=World.block_lt_of_cell? _ _ b0
   clear hb hlen hin
   go_wp2_with fail
   refine bodyPost_ret (v:=.agg #[.int .u32 (k:Int),.int .i64 N]) ?_ rfl ⟨rfl, ?_⟩
   ·exact Xr1
   ·(repeat' (first|with_reducible exact HBj.out.t|with_reducible apply Touch.alloc|with_reducible apply touchC))<;>(first|(simp;done)|(simp;omega))
  ·have hx:=hin hlt
   have x0:0<=ld m.mem q 4:=(ld4 m.mem HF.out.mem q).1
   have x1:ld m.mem q 4<=4294967295:=(ld4 m.mem HF.out.mem q).2
   have jl:(j:Int)<8:=by omega
   have w4:IntKind.u32.wrap ((q:Int)+4)=(q:Int)+4:=by rw[IntKind.wrap_u32];omega
   have w5:IntKind.i64.wrap ((j:Int)+1)=(j:Int)+1:=by rw[IntKind.wrap_i64];omega
   obtain⟨n,hn8⟩:∃n,8-j=n+1:=⟨7-j,by omega⟩
   rw[hn8]at hlen
   simp only[blockLen,Int.toNat_natCast]at hlen
   have hln:j+n=7:=by omega
   have b1:=hb.b1
   have HQ:Hid (q=k+4*j):=hq
   have q64:¬((q:Int)+4)%64=0->q+4+4<=m.size:=fun _=>by omega
   have HQ4:Hid (¬((q:Int)+4)%64=0->q+4+4<=m.size):=q64
   clear hq q64
   by_cases hn:opn (ld m.mem q 4)=-1
   ·rw[if_pos hn]at hlen
    have HL:Hid (N=(j:Int)):=(by rw[hlen];simp:N=(j:Int))
    clear hb hlen hin
    go_wp2_with (first|(go_at_call 52;refine(load_4 (HH.out _ HBj.out.t) q hx z5 HF.out.mem).mono ?_;rintro e w' ⟨rfl,hw'⟩;subst w')|(go_at_call 38;refine(decodes.dref_any (ld m.mem q 4) x0 x1 _).mono ?_;rintro e w1 ⟨rfl,hbel⟩;have HB1:Hid (BlkAt w k j w1):=HBj.out.step (Touch.of_below hbel);have r0:=HB1.out.r0;have r1:=HB1.out.r1;have f0:=HB1.out.f0;have f1:=HB1.out.f1;have b0:=HB1.out.b0;have b1:=HB1.out.b1;have g1:=HB1.out.g1;have l0:=World.block_lt_of_cell? _ _ r0;have l1:=World.block_lt_of_cell? _ _ b0;rw[dec_no _ hn];unfold no;clear hbel))
    refine bodyPost_ret (v:=.agg #[.int .u32 (k:Int),.int .i64 N]) ?_ rfl ⟨rfl, ?_⟩
    ·exact Xr1
    ·(repeat' (first|with_reducible exact HB1.out.t|with_reducible apply Touch.alloc|with_reducible apply touchC))<;>(first|(simp;done)|(simp;omega))
   ·rw[if_neg hn]at hlen
    cases he:ends (opn (ld m.mem q 4))with
    |true=>
     have HL:Hid (N=(j:Int)+1):=(by rw[hlen];simp[he]:N=(j:Int)+1)
     clear hb hlen hin
     exact Xr0
    |false=>
     by_cases hp:((q:Int)+4)%64=0
     ·have HL:Hid (N=(j:Int)+1):=(by rw[hlen];simp[he,hp]:N=(j:Int)+1)
      clear hb hlen hin
      exact Xr0
     ·have HL:Hid (N=(j:Int)+(1+blockLen m.mem n ((q:Int)+4))):=(by rw[hlen];simp[he,hp]:N=(j:Int)+(1+blockLen m.mem n ((q:Int)+4)))
      clear hb hlen hin
      go_wp2_with (first|(go_at_call 52;refine(load_4 (HH.out _ HBj.out.t) q hx z5 HF.out.mem).mono ?_;rintro e w' ⟨rfl,hw'⟩;subst w')|(go_at_call 38;refine(decodes.dref_any (ld m.mem q 4) x0 x1 _).mono ?_;rintro e w1 ⟨rfl,hbel⟩;have HB1:Hid (BlkAt w k j w1):=HBj.out.step (Touch.of_below hbel);have r0:=HB1.out.r0;have r1:=HB1.out.r1;have f0:=HB1.out.f0;have f1:=HB1.out.f1;have b0:=HB1.out.b0;have b1:=HB1.out.b1;have g1:=HB1.out.g1;have l0:=World.block_lt_of_cell? _ _ r0;have l1:=World.block_lt_of_cell? _ _ b0;rw[dec_raw _ hn];unfold ins;clear hbel)|(go_at_call 104;refine(ends_any (opn (ld m.mem q 4)) _).mono ?_;rintro e w' ⟨rfl,hw'⟩;subst w';rw[he]))
      go_roundw
      case rel=>
       refine⟨j+1,q+4,by omega,by have:=HQ.out;omega,by simp,HB1.out.set.step ((Touch.refl _ _).alloc _),fun _=>HQ4.out hp, ?_⟩
       rw[HL.out,show 8-(j+1)=n by omega,show(((q+4:Nat)):Int)=(q:Int)+4 by simp,show(((j+1:Nat)):Int)=(j:Int)+1 by simp]
       omega
      case measure=>
       show bm (w.heap.size+1) _<bm (w.heap.size+1) wr
       rw[bm_at (HB1.out.set.step ((Touch.refl _ _).alloc _)),bm_at HBj.out];omega
end ref
namespace ref
open ChangeShapes WideShapes ChangeAt RowKit nums dnums mach
attribute [local go_sem ↓] Go.wp_at_zero Go.wp_at_succ
theorem heap_set(w:World)(g p:Nat)(x:Value)(cur:Array Value)(e:TypeId)(fr:Nat × Nat)(h:w.heap[g]?=some (.cells cur e fr)):(w.setCell ⟨g,p,none⟩ x).heap[g]?=some (.cells (cur.setIfInBounds p x) e fr):=by
 simp[World.setCell,Array.getElem?_modify,h]
theorem own_set{w:World}{base e size n g cap:Nat}{xs:List Value}(h:w.ownsRow base e size (.slice (some ⟨g,0,none⟩) n cap) n xs)(p:Nat)(hp:p<n*size)(x:Value):(w.setCell ⟨g,p,none⟩ x).ownsRow base e size (.slice (some ⟨g,0,none⟩) n cap) n (xs.set p x):=by
 refine⟨by rw[List.length_set];exact h.1, ?_⟩
 rcases h.2 with⟨h1,_⟩|⟨g',cap',cur,hv,hb,hg,hn,hm,hs,ht⟩
 ·cases h1
 ·injection hv with e1 e2 e3
  injection e1 with e1
  injection e1 with e1
  subst e1
  subst e3
  refine .inr ⟨g,cap,cur.setIfInBounds p x,rfl,hb,heap_set w g p x cur e (0,0) hg,hn,hm,by simpa using hs, ?_⟩
  rw[<-ht,Array.toList_setIfInBounds,List.take_set]
theorem row_free{w:World}{base e size n g cap:Nat}{xs:List Value}(h:w.ownsRow base e size (.slice (some ⟨g,0,none⟩) n cap) n xs)(p:Nat):w.frozen? ⟨g,p,none⟩=false:=by
 rcases h.2 with⟨h1,_⟩|⟨g',cap',cur,hv,hb,hg,hn,hm,hs,ht⟩
 ·cases h1
 ·injection hv with e1 e2 e3
  injection e1 with e1
  injection e1 with e1
  subst e1
  unfold World.frozen?;simp[hg]
theorem blkCells_get:∀(l:List Blk) (k:Nat) (x:Blk),l[k]?=some x->(blkCells l)[k*4]?=some (.int .u32 x.pc)/\(blkCells l)[k*4+1]?=some (.int .i64 x.len)/\(blkCells l)[k*4+2]?=some (.int .i64 x.built)/\(blkCells l)[k*4+3]?=some (.int .i64 x.entered):=by
 intro l
 induction l with
 |nil=>intro k x h;simp at h
 |cons y r ih=>
  intro k x h
  cases k with
  |zero=>simp at h;subst h;simp[blkCells]
  |succ k=>
   have:=ih k x (by simpa using h)
   have e:blkCells (y::r)=[.int .u32 y.pc,.int .i64 y.len,.int .i64 y.built,.int .i64 y.entered]++blkCells r:=by simp[blkCells]
   rw[e,show(k+1)*4=k*4+4 by omega]
   simpa using this
theorem blkCells_len(l:List Blk):(blkCells l).length=l.length*4:=by
 induction l with
 |nil=>rfl
 |cons y r ih=>
  have e:blkCells (y::r)=[.int .u32 y.pc,.int .i64 y.len,.int .i64 y.built,.int .i64 y.entered]++blkCells r:=by simp[blkCells]
  rw[e,List.length_append,ih,List.length_cons];simp;omega
theorem blkCells_app(l r:List Blk):blkCells (l++r)=blkCells l++blkCells r:=by simp[blkCells]
theorem row_blk{w:World}{base:Nat}{v:Value}{l:List Blk}(h:w.ownsRow base 44 4 v l.length (blkCells l))(k:Nat)(x:Blk)(hk:l[k]?=some x):
  ∃g c,v=.slice (some ⟨g,0,none⟩) l.length c/\w.cell? ⟨g,k*4,none⟩=some (.int .u32 x.pc)/\w.cell? ⟨g,k*4+1,none⟩=some (.int .i64 x.len)/\w.cell? ⟨g,k*4+2,none⟩=some (.int .i64 x.built)/\w.cell? ⟨g,k*4+3,none⟩=some (.int .i64 x.entered):=by
 have hl:k<l.length:=(List.getElem?_eq_some_iff.1 hk).1
 rcases h.2 with⟨h1,h0⟩|⟨g,cap,cur,hv,hb,hg,hn,hm,hs,ht⟩
 ·omega
 ·obtain⟨a1,a2,a3,a4⟩:=blkCells_get l k x hk
  have get:∀j u,(blkCells l)[j]?=some u->w.cell? ⟨g,j,none⟩=some u:=fun j u hu=>by
   rw[cell_of_row w g j cur 44 (0,0) hg]
   rw[<-ht,List.getElem?_take]at hu
   by_cases c:j<l.length*4
   ·rw[if_pos c]at hu;simpa using hu
   ·rw[if_neg c]at hu;cases hu
  exact⟨g,cap,hv,get _ _ a1,get _ _ a2,get _ _ a3,get _ _ a4⟩
theorem blkCells_set:∀(l:List Blk) (k:Nat) (x:Blk),k<l.length->blkCells (l.set k x)=((((blkCells l).set (k*4) (.int .u32 x.pc)).set (k*4+1) (.int .i64 x.len)).set (k*4+2) (.int .i64 x.built)).set (k*4+3) (.int .i64 x.entered):=by
 intro l
 induction l with
 |nil=>intro k x h;simp at h
 |cons y r ih=>
  intro k x h
  have e:∀(z:Blk) (q:List Blk),blkCells (z::q)=.int .u32 z.pc::.int .i64 z.len::.int .i64 z.built::.int .i64 z.entered::blkCells q:=fun z q=>by simp[blkCells]
  cases k with
  |zero=>rw[List.set_cons_zero,e,e];simp
  |succ k=>
   rw[List.set_cons_succ,e,e,ih k x (by simpa using h),show(k+1)*4=k*4+4 by omega]
   simp[List.set_cons_succ]
theorem count_hit(l:List Blk)(pc len b e:Int)(k:Nat)(x:Blk)(hk:l[k]?=some x)(hx:x.pc=pc)(hs:l.Pairwise (fun a b=>a.pc<b.pc)):
  count l pc len b e=l.set k {x with len:=if 0<b then len else x.len,built:=x.built+b,entered:=x.entered+e }:=by
 have hl:k<l.length:=(List.getElem?_eq_some_iff.1 hk).1
 have hany:(l.any fun k=>k.pc==pc)=true:=by
  rw[List.any_eq_true]
  exact⟨x,List.mem_of_getElem? hk,by simp[hx]⟩
 unfold count
 rw[if_pos hany]
 unfold countIn
 apply List.ext_getElem?
 intro i
 rw[List.getElem?_map,List.getElem?_set]
 by_cases hi:i=k
 ·subst hi;rw[hk];simp[hx,hl]
 ·rw[if_neg (fun q=>hi q.symm)]
  cases hy:l[i]? with
  |none=>rfl
  |some y=>
   have hne:¬y.pc=pc:=by
    intro q
    have hil:=(List.getElem?_eq_some_iff.1 hy)
    have hkl:=(List.getElem?_eq_some_iff.1 hk)
    rcases Nat.lt_or_gt_of_ne hi with c|c
    ·have:=List.pairwise_iff_getElem.1 hs i k hil.1 hkl.1 c
     rw[hil.2,hkl.2]at this;omega
    ·have:=List.pairwise_iff_getElem.1 hs k i hkl.1 hil.1 c
     rw[hil.2,hkl.2]at this;omega
   simp[hne]
theorem count_miss(l:List Blk)(pc len b e:Int)(j:Nat)(hno:∀x∈l,¬x.pc=pc)(hj:j<=l.length)(h1:∀x∈l.take j,x.pc<pc)(h2:∀x,l[j]?=some x->¬x.pc<pc):
  count l pc len b e=l.take j++⟨pc,len,b,e⟩::l.drop j:=by
 have hany:(l.any fun k=>k.pc==pc)=false:=by
  rw[List.any_eq_false]
  intro x hx;simpa using hno x hx
 unfold count
 rw[hany,if_neg dC]
 have e1:l=l.take j++l.drop j:=(List.take_append_drop j l).symm
 have t1:l.takeWhile (fun k=>decide (k.pc<pc))=l.take j/\l.dropWhile (fun k=>decide (k.pc<pc))=l.drop j:=by
  have tw:∀(a r:List Blk),(∀x∈a,x.pc<pc)->(∀x,r.head?=some x->¬x.pc<pc)->(a++r).takeWhile (fun k=>decide (k.pc<pc))=a/\(a++r).dropWhile (fun k=>decide (k.pc<pc))=r:=by
   intro a
   induction a with
   |nil=>
    intro r _ hr
    cases r with
    |nil=>exact⟨rfl,rfl⟩
    |cons y q=>simp[hr y rfl]
   |cons y q ih=>
    intro r ha hr
    obtain⟨i1,i2⟩:=ih r (fun x hx=>ha x (by simp[hx])) hr
    have hy:y.pc<pc:=ha y sP
    simp[hy,i1,i2]
  have:=tw (l.take j) (l.drop j) h1 (fun x hx=>h2 x (by rw[List.head?_drop]at hx;exact hx))
  rw[<-e1]at this
  exact this
 rw[t1.1,t1.2]
theorem set_same{α:Type}:∀(l:List α) (i:Nat) (a:α),l[i]?=some a->l.set i a=l:=by
 intro l i a h
 apply List.ext_getElem?
 intro j
 rw[List.getElem?_set]
 by_cases e:i=j
 ·subst e
  have hl:=(List.getElem?_eq_some_iff.1 h).1
  rw[h]
  simp[hl]
 ·simp[e]
theorem Whole.blk {B b mb g:Nat}{m:M}{vE vA vS vB:Value}{w w':World}(h:Whole B b mb m vE vA vS vB w)(hz:0<m.size)(hg:g∈sblk vB)(t:Touch [g] w w')(l:List Blk)(ho:w'.ownsRow B 44 4 vB l.length (blkCells l)):
  Whole B b mb {m with blocks:=l } vE vA vS vB w'/\Below B w w'/\Touch (b::sblk vB) w w'/\∀k,k∈sblk vB->k∈sblk vB\/w.heap.size<=k:=by
 obtain⟨d1,d2,d3⟩:=h.dB g hg
 have hr:=h.ref.other t (by simp;exact fun e=>d1 e.symm) (by simp;exact fun e=>d2 e.symm) hz
 have hlt:B<=w.heap.size:=Nat.le_of_lt (Nat.lt_of_le_of_lt h.ref.hb (World.block_lt_of_cell? _ _ h.ref.data))
 have hbel:Below B w w':=t.below hlt (by intro i hi;simp at hi;subst hi;exact(own_lt h.blks i hg).1)
 refine⟨⟨⟨hr.hb,hr.hmb,hr.ne,hr.cells,hr.data,hr.free,hr.bytes,hr.freem⟩,h.slots.far t (fun k hk=> ?_) rfl rfl,own_touch h.evs t (fun k hk=> ?_),h.ans.below hbel,ho,h.dE,h.dB,h.bS⟩,hbel,t.mono (by intro i hi;simp at hi;subst hi;exact List.mem_cons_of_mem _ hg),fun k hk=>Or.inl hk⟩
 ·simp;intro e;subst e;exact d3 hk
 ·simp;intro e;subst e;exact(h.dE k hk).2.2.2 hg
theorem at_blks{B b mb:Nat}{m:M}{vE vA vS vB:Value}{w:World}(h:RefAt B b mb m vE vA vS vB w)(l:List Blk)(v:Value):RefAt B b mb {m with blocks:=l } vE vA vS v (w.setCell ⟨b,50,none⟩ v):=
 h.upd (m':={m with blocks:=l }) (vE':=vE) (vA':=vA) (vS':=vS) (vB':=v) 50 dC dC _ rfl rfl (fun i hi h39=>Or.elim (Decidable.em (i=50)) (fun e=>by subst e;simp[lay]) (fun e=>by
  rw[if_neg e]
  have:i<34\/i=34\/i=35\/i=36\/i=37\/i=38\/i=40\/i=41\/i=42\/i=43\/i=44\/i=45\/i=46\/i=47\/i=48\/i=49:=by omega
  rcases this with k|k|k|k|k|k|k|k|k|k|k|k|k|k|k|k<;>simp[lay,k]))
theorem Whole.newblk {B b mb:Nat}{m:M}{vE vA vS vB:Value}{w w':World}(h:Whole B b mb m vE vA vS vB w)(hz:0<m.size)(t:Touch [] w w')(l:List Blk)(v:Value)(ho:w'.ownsRow B 44 4 v l.length (blkCells l))(hd:∀k,k∈sblk v->w.heap.size<=k):
  Whole B b mb {m with blocks:=l } vE vA vS v (w'.setCell ⟨b,50,none⟩ v)/\Below B w (w'.setCell ⟨b,50,none⟩ v)/\Touch (b::sblk vB) w (w'.setCell ⟨b,50,none⟩ v)/\∀k,k∈sblk v->k∈sblk vB\/w.heap.size<=k:=by
 have lb:b<w.heap.size:=World.block_lt_of_cell? _ _ h.ref.data
 have lm:mb<w.heap.size:=World.block_lt_of_cell? _ _ (h.ref.bytes 0 hz)
 have hlt:B<=w.heap.size:=Nat.le_trans h.ref.hb (Nat.le_of_lt lb)
 have t2:Touch [b] w (w'.setCell ⟨b,50,none⟩ v):=(t.mono sP).setCell sP _
 have t3:Touch [b] w' (w'.setCell ⟨b,50,none⟩ v):=(Touch.refl _ _).setCell sP _
 have hbel:Below B w (w'.setCell ⟨b,50,none⟩ v):=t2.below hlt (by intro i hi;simp at hi;subst hi;exact h.ref.hb)
 have ho2:(w'.setCell ⟨b,50,none⟩ v).ownsRow B 44 4 v l.length (blkCells l):=own_touch ho t3 (fun k hk=>by have:=hd k hk;simp;omega)
 refine⟨⟨at_blks (h.ref.other t sP sP hz) l v,h.slots.far t2 (fun k hk=>by simpa using(h.slots.apart k hk).1) rfl rfl,own_touch h.evs t2 (fun k hk=>by simpa using(h.dE k hk).1),h.ans.below hbel,ho2,fun k hk=>⟨(h.dE k hk).1,(h.dE k hk).2.1,(h.dE k hk).2.2.1,fun hc=> ?_⟩,fun k hk=> ?_,h.bS⟩,hbel,t2.mono sP,fun k hk=>Or.inr (hd k hk)⟩
 ·have:=hd k hc;have:=(own_lt h.evs k hk).2;omega
 ·have hk2:=hd k hk
  exact⟨by omega,by omega,fun hc=>by have:=h.slots.lt k hc;omega⟩
theorem run_append_none(w:World)(n c cx:Nat)(ob ox:Option Addr)(ty:TypeId)(hn:n<=c):(Builtin.append_ #[36,36] ty #[.slice ob n c,.slice ox 0 cx]).run Tryz.prog w=.ok (.slice ob n c) w:=by
 have hz:∀w,(Go.sizeOf 44).run Tryz.prog w=.ok 4 w:=fun w=>by kernel_rfl
 have hu:=fun w=>run_underlying Tryz.underlying36 w
 cases ob<;>cases ox<;>simp[Builtin.append_,hu,hz,hn,Builtin.lenOf,Builtin.firstCells,storeCells,Sem.run_bind,Result.andThen,loadCells,loadCellsFrom]
theorem wpList_append_none{ops:Array Oper}{rest:List Oper}{o:Oper}{a:Act}{w:World}{Q:Exit->Act->World->Prop}(hgd:o.guard=none)(s x:Operand)
  (ho:o.op=.call {callee:=.builtin .append,args:=#[s,x],argTypes:=#[36,36] }) (n c cx:Nat) (ob ox:Option Addr) (hs:a.eval s=.slice ob n c) (hx:a.eval x=.slice ox 0 cx) (hn:n<=c)
  (h:wpList Tryz.prog ops Q rest (a.put o.dst (.slice ob n c)) w):wpList Tryz.prog ops Q (o::rest) a w:=
 wpList_plain hgd fun _ hK=>by
  have hr:=run_append_none w n c cx ob ox o.type hn
  unfold Oper.wp execOp
  simp only[ho,resolve,invoke,builtin,Sem.run_bind,Sem.run_pure,Result.andThen_ok,List.map_toArray,List.map_cons,List.map_nil,hs,hx,hr]
  exact hK _ _ h
theorem info_blk:(Tryz.prog.info? 44).map (fun i=>(i.zero,i.size,i.bytes))=some (some (.agg #[.int .u32 0,.int .i64 0,.int .i64 0,.int .i64 0]),4,32):=by kernel_rfl
theorem row_get{w:World}{base e size n g cap:Nat}{xs:List Value}(h:w.ownsRow base e size (.slice (some ⟨g,0,none⟩) n cap) n xs)(i:Nat)(u:Value)(hu:xs[i]?=some u):w.cell? ⟨g,i,none⟩=some u:=by
 rcases h.2 with⟨h1,_⟩|⟨g',cap',cur,hv,hb,hg,hn,hm,hs,ht⟩
 ·cases h1
 ·injection hv with e1 e2 e3
  injection e1 with e1
  injection e1 with e1
  subst e1
  rw[cell_of_row w g i cur e (0,0) hg]
  rw[<-ht,List.getElem?_take]at hu
  by_cases c:i<n*size
  ·rw[if_pos c]at hu;simpa using hu
  ·rw[if_neg c]at hu;cases hu
theorem blkCells_one:∀(l:List Blk),∀u∈blkCells l,u.oneCell'=true:=by
 intro l u hu
 simp[blkCells]at hu
 obtain⟨x,_,h|h|h|h⟩:=hu<;>subst h<;>rfl
theorem blkCells_tk(l:List Blk)(j:Nat)(hj:j<=l.length)(i:Nat)(u:Value)(h:(blkCells (l.take j))[i]?=some u):(blkCells l)[i]?=some u:=by
 have e:blkCells l=blkCells (l.take j)++blkCells (l.drop j):=by rw[<-blkCells_app,List.take_append_drop]
 rw[e,List.getElem?_append_left ((List.getElem?_eq_some_iff.1 h).1)];exact h
theorem blkCells_dr(l:List Blk)(j:Nat)(hj:j<=l.length)(i:Nat)(u:Value)(h:(blkCells (l.drop j))[i]?=some u):(blkCells l)[j*4+i]?=some u:=by
 have e:blkCells l=blkCells (l.take j)++blkCells (l.drop j):=by rw[<-blkCells_app,List.take_append_drop]
 have hl:(blkCells (l.take j)).length=j*4:=by rw[blkCells_len,List.length_take];omega
 rw[e,List.getElem?_append_right oM,hl,show j*4+i-j*4=i by omega];exact h
theorem row_cap4{w:World}{base e size n g cap:Nat}{xs:List Value}(h:w.ownsRow base e size (.slice (some ⟨g,0,none⟩) n cap) n xs):n<=cap:=by
 rcases h.2 with⟨h1,_⟩|⟨g',cap',cur,hv,hb,hg,hn,hm,hs,ht⟩
 ·cases h1
 ·injection hv with e1 e2 e3;omega
theorem tnew2{S T:List Nat}{u v w:World}(h:Touch S u v)(k:Touch T v w)(hT:∀i,i∈T->i∈S\/u.heap.size<=i):Touch S u w:=
 ⟨k.os.trans h.os,k.tape.trans h.tape,k.output.trans h.output,Nat.le_trans h.size k.size,fun i hi hn=>(k.block i (Nat.lt_of_lt_of_le hi h.size) (fun hm=>(hT i hm).elim (fun q=>hn q) (fun q=>absurd q (Nat.not_le.mpr hi)))).trans (h.block i hi hn)⟩
theorem tnew{S T:List Nat}{u v w:World}(h:Touch S u v)(k:Touch T v w)(hT:∀i,i∈T->u.heap.size<=i):Touch S u w:=
 ⟨k.os.trans h.os,k.tape.trans h.tape,k.output.trans h.output,Nat.le_trans h.size k.size,fun i hi hn=>(k.block i (Nat.lt_of_lt_of_le hi h.size) (fun hm=>absurd (hT i hm) (Nat.not_le.mpr hi))).trans (h.block i hi hn)⟩
theorem add_mk(g o k:Nat):(⟨g,o,none⟩:Addr).add k=⟨g,o+k,none⟩:=by unfold Addr.add;by_cases z:k=0<;>simp[z]
def CntQ (B b mb:Nat) (m:M) (vE vA vS vB:Value) (w:World) (e:Ending) (w':World):Prop:=e=.returned (.tuple #[])/\∃vB',Whole B b mb m vE vA vS vB' w'/\Below B w w'/\Touch (b::sblk vB) w w'/\∀k,k∈sblk vB'->k∈sblk vB\/w.heap.size<=k
end ref
end Go.Proofs.YtjikimpejlmdiaaGreatDoor

import Derived.Test.YtjikimpejlmdiaaGreatDoorZHl
import Derived.Test.YtjikimpejlmdiaaGreatDoorZMapP
import Derived.RangeFuncNested
import Derived.RangeFuncBound
import Derived.RangeFuncCalls
import Derived.RangeFuncLeaves
import Derived.RangeFuncBox
import Derived.Shelf.Abstract
import Derived.Shelf.RegionOpen
import Derived.WalkKit
import Derived.OwnWalkIn
import Derived.TacticsInMore
import Derived.LoopNIn
import Derived.LoopIn
import Derived.Maps.AppendAt
import Derived.Sort.MapsRangeIn
import Derived.Deep.Cut
import Derived.Test.YtjikimpejlmdiaaGreatDoorZPrXA
import Derived.Deep.AppendLies
import Derived.Test.YtjikimpejlmdiaaGreatDoorZGh
set_option maxHeartbeats 4000000
set_option linter.unusedVariables false
set_option linter.unusedSimpArgs false
set_option maxRecDepth 10000
namespace Go.Proofs.YtjikimpejlmdiaaGreatDoor
namespace so
open Maps Shelf ChangeShapes WideShapes ChangeAt RowKit Proofs.YtjikimpejlmdiaaGreatDoor
attribute [local go_sem ↓] Go.wp_at_zero Go.wp_at_succ
open mach in
def Coll (bl:List Blk) (left:Lit->Bool) (ss:List Int):Prop:=ss.Nodup/\∀x,x∈ss ↔ (∃b∈bl,b.pc=x)/\left (.int .u32 x)=false
open mach in
theorem Coll.start (bl:List Blk):Coll bl (has (blkL bl)) []:=by
 refine⟨List.nodup_nil,fun x=>⟨fun h=>(by cases h),fun⟨⟨b,hb,e⟩,h⟩=> ?_⟩⟩
 have:has (blkL bl) (.int .u32 x)=true:=by
  show(bl.map fun x=>(Lit.int .u32 x.pc,blkD x)).any (fun p=>p.1.sameKey _)=true
  exact List.any_eq_true.2 ⟨_,List.mem_map.2 ⟨b,hb,rfl⟩,by simp[Lit.sameKey,e]⟩
 rw[this]at h;cases h
open mach in
theorem Coll.step {bl:List Blk}{left:Lit->Bool}{ss:List Int}(h:Coll bl left ss){c:Blk}(hc:c∈bl)(hl:left (.int .u32 c.pc)=true):Coll bl (fun z=>left z&& !z.sameKey (.int .u32 c.pc)) (ss++[c.pc]):=by
 have hnew:c.pc∉ss:=fun hx=>by have:=((h.2 _).1 hx).2;rw[hl]at this;cases this
 refine⟨List.nodup_append.2 ⟨h.1,by simp,fun a ha b hb=>by simp at hb;subst hb;exact fun e=>hnew (e ▸ ha)⟩,fun y=> ?_⟩
 by_cases hy:y=c.pc
 ·subst hy;simp[Lit.sameKey];exact⟨c,hc,rfl⟩
 ·have e:(Lit.int .u32 y).sameKey (.int .u32 c.pc)=false:=by simp[Lit.sameKey,hy]
  simp[h.2 y,hy,e]
open mach in
def Keys (bl:List Blk) (ss:List Int):Prop:=ss.Nodup/\∀x,x∈ss ↔ ∃b∈bl,b.pc=x
set_option maxRecDepth 100000 in
open mach in
theorem keys1_in(n:Nat)(hn:1<=n)(l Bm b:Nat)(bl:List Blk)(J Jx:List Int->World->Prop)
  (hY:∀pre x W,J pre W->pre.length<bl.length->YieldAt Fence.wide (n-1) Tryz.prog l #[.int .u32 x] W fun e W'=>(e=.returned (.bool true)/\J (pre++[x]) W'/\KeepsWalks W W')\/(e=.returned (.bool false)/\Jx (pre++[x]) W'))
  (W:World) (hJ:AbidesFrom W.heap.size J) (hm:W.cell? ⟨Bm,0,none⟩=some (.map (some b))) (hown:PM Tryz.prog 22 b bl W) (h0:J [] W):
  CallsIn Fence.wide n Tryz.prog 112 #[.func (.yield l) #[] #[],.pointer (some ⟨Bm,0,none⟩)] W fun e W'=>(∃v,e=.returned v)/\((∃ss,Keys bl ss/\J ss W')\/∃pre,True/\Jx pre W'):=by
 have K22:Keyed Tryz.prog 22:=int_keyed Tryz.underlying22
 refine callsIn_of_wp Tryz.func112 rfl trivial ?_ rfl
 simp only[Tryz.ntmps112,List.size_toArray,List.length_cons,List.length_nil,Nat.reduceAdd,Nat.reduceSub,Array.replicate_succ,Array.replicate_zero,List.push_toArray,List.append_toArray,List.nil_append,List.cons_append]
 gi_wp2_with (first
  |(gi_at_range;refine wpListIn_range_own _ rfl _ 87 rfl 22 44 K22 Tryz.underlying87 blkR b bl.length (blkL bl) rfl hown ?_;intro w0 hrg0 hg0 hs0)
  |gi_in)
 go_frame
 gi_loopw [3] (fun _ wr=>∃(left:Lit->Bool) (cnt:Nat) (ss:List Int),wr.ranges Tryz.prog 22 blkR b W.heap.size bl.length (blkL bl) left cnt/\ss.length+cnt<=bl.length/\Coll bl left ss/\J ss wr)
  (fun _ wr=>wr.rangeLeft b W.heap.size)
 case atStart=>
  exact⟨_,_,[],hrg0,by simp[Maps.size,blkL],Coll.start bl,hJ [] W w0 none h0 hg0 (fun r e=>by cases e)⟩
 case round=>
  obtain⟨left,cnt,ss,hrg,hcs,hC,hJs⟩:=hrel
  gi_wp2_with (first
   |(gi_at_next;refine wpListIn_next_ranges _ rfl _ rfl 22 K22 blkR (Value.int .u32) blkV (fun key kl hk=>by obtain⟨x,hx,_⟩:=keyOf_int_inv Tryz.underlying22 hk;exact⟨x,hx⟩) (fun v y hv=>by obtain⟨c,hc,_⟩:=blkR_inv hv;exact⟨c,hc⟩) b W.heap.size bl.length (blkL bl) left cnt rfl hrg ?_ ?_)
   |gi_in)
  ·intro hc0 hl0
   gi_wp2
   go_end0
   exact⟨⟨_,rfl⟩,Or.inl ⟨ss,⟨hC.1,fun x=>by rw[hC.2 x,hl0];simp⟩,hJs⟩⟩
  ·intro x c kl yd yp w2 cnt2 hkey hlk hv hat hrg2 hlt hg2 hs2 hen
   obtain⟨x',ex,rfl,_⟩:=keyOf_int_inv Tryz.underlying22 hkey
   cases ex
   rw[blkR_mk]at hv
   cases hv
   obtain⟨m1,m2⟩:=blkL_mem hat
   subst m2
   have hJ2:J ss w2:=hJ ss wr w2 (some W.heap.size) hJs hg2 (fun r e=>by cases e;exact⟨Nat.le_refl _,hrg.iter_walk⟩)
   obtain⟨fn,tmps,assign,body,hy,hR⟩:=hY ss c.pc w2 hJ2 oM
   clear hs2
   gi_wp2
   refine hR.mono ?_
   rintro e W3 (⟨rfl,hJ3,hk3⟩|⟨rfl,hJx3⟩)
   ·gi_wp2
    have hrg3:=hrg2.of_walks hk3
    go_roundw
    case rel=>exact⟨_,cnt2,ss++[c.pc],hrg3,by simp;omega,hC.step m1 hlk,hJ3⟩
    case measure=>rw[hrg3.left_eq,hrg.left_eq];exact hlt
   ·gi_wp2
    refine bodyPost_ret (results_none rfl _ _ _) rfl ?_
    exact⟨⟨_,rfl⟩,Or.inr ⟨ss++[c.pc],trivial,hJx3⟩⟩
end so
namespace so
open Maps Shelf ChangeShapes WideShapes ChangeAt RowKit Proofs.YtjikimpejlmdiaaGreatDoor
attribute [local go_sem] Oper.semAt_some
attribute [local go_sem ↓] Go.wp_at_zero Go.wp_at_succ
open mach in
theorem keys_stops(n:Nat)(hn:1<=n)(Bm b:Nat)(bl:List Blk)(w:World)(hBm:Bm<w.heap.size)(hm:w.cell? ⟨Bm,0,none⟩=some (.map (some b)))(hown:PM Tryz.prog 22 b bl w):
  SeqStopsK Fence.wide n Tryz.prog 112 #[.pointer (some ⟨Bm,0,none⟩)] (fun x:Int=>#[Value.int .u32 x]) KeepsWalks (Keys bl) (fun _=>True) bl.length w:=fun l J Jx W hW hJ _ hY h0=>
 keys1_in n hn l Bm b bl J Jx hY W hJ ((hW.cell (p:=⟨Bm,0,none⟩) hBm).trans hm) (hown.keep (hW.block b hown.lt)) h0
theorem keys_any(p:Option Nat)(w:World):Calls Tryz.prog 86 #[.map p] w fun e w'=>e=.returned (.func (.func 112) #[] #[.pointer (some ⟨w.heap.size,0,none⟩)])/\w'=w.alloc (.cells #[.map p] 87):=by
 go_enter Tryz.func86,Tryz.ntmps86
 go_wp2
 go_ret
 exact⟨rfl,rfl⟩
theorem info_u32:(Tryz.prog.info? 22).map (fun i=>(i.zero,i.size,i.bytes))=some (some (.int .u32 0),1,4):=by kernel_rfl
set_option maxRecDepth 100000 in
theorem asq_in(n:Nat)(hn:2<=n)(g:Nat)(lb:Array Value)(eg:∀args w,(callFunc g args).run Tryz.prog w=.ok (.enter g args) w)(S:List Int->Prop)(N:Nat)(hN:N<=5000)(w:World)
  (hseq:SeqStopsK Fence.wide (n-1) Tryz.prog g lb (fun x:Int=>#[Value.int .u32 x]) KeepsWalks S (fun _=>True) N w):
  CallsIn Fence.wide n Tryz.prog 141 #[.slice none 0 0,.func (.func g) #[] lb] w fun e w'=>∃(v:Value) (ss:List Int),e=.returned v/\S ss/\w'.ownsRow w.heap.size 22 1 v ss.length (ss.map (Value.int .u32))/\Below w.heap.size w w':=by
 have h1:1<=n:=by omega
 have hro:Fence.wide.round=none:=rfl
 obtain⟨i0,hi,hz0,hz1,hz2⟩:=info_parts info_u32
 refine callsIn_of_wp_marks Tryz.func141 rfl trivial ?_ hro
 simp only[Tryz.ntmps141,List.size_toArray,List.length_cons,List.length_nil,Nat.reduceAdd,Nat.reduceSub,Array.replicate_succ,Array.replicate_zero,List.push_toArray,List.append_toArray,List.nil_append,List.cons_append]
 gi_wp2
 have bO:=Boxed.new w 55 (.slice none 0 0)
 have hB0:Below w.heap.size w (w.alloc (.cells #[.slice none 0 0] 55)):=(Below.refl _ w).alloc (Nat.le_refl _) _
 refine wpIn_rangeFunc_ownG hro h1 (gf:=g) (lb:=lb) rfl trivial eg hseq walksK_t walksK_b hB0 (fun _=>rfl)
  (fun pre W=>(∃v,Boxed W w.heap.size 55 v/\W.ownsRow w.heap.size 22 1 v pre.length (pre.map (Value.int .u32))/\True)/\Below w.heap.size w W)
  (fun _ _ _=>False)
  (OwnFrom.and (Own.from (holdsRow_own w.heap.size w.heap.size 55 22 1 (fun pre:List Int=>pre.length) (fun pre:List Int=>pre.map (Value.int .u32)) (fun _ _=>True)) _) (ownFrom_below (Nat.le_refl _) sP))
  (fun _ _ _ _ _ hs _ _=>hs)
  ⟨⟨_,bO,World.ownsRow_nil _ _ _ _,trivial⟩,hB0⟩
  (fun x=>{tmps:=#[.slice none 0 0,.func (.func g) #[] lb,.pointer (some ⟨w.heap.size,0,none⟩),undef,.slice none 0 0,.int .u32 x,.func (.func g) #[] lb,.int .u32 x,undef,undef,undef,undef,undef],defers:=[] }) ?assign ?body ?done ?stop
 case assign=>
  intro l x W K hK
  gi_wp2
  exact hK
 case body=>
  rintro l pre x W ⟨⟨v,hv,hrow,_⟩,hB⟩ hlt
  have hc:=hv.cell
  gi_wp2_with (gi_at_builtin;refine wpListIn_append_own _ rfl _ _ 55 rfl w.heap.size 22 i0 (.int .u32 0) 1 4 Tryz.underlying55 hi hz0 hz1 hz2 rfl dC _ _ _ rfl (hrow.alloc _) ⟨W.heap.size,0,none⟩ 1 1 [.int .u32 x] rfl rfl (cell_one_new _ _ _) oC mL oM (by have:=hB.size;simp;omega) ?_;intro v' w1 hown' hgrow _;obtain⟨g',cap',rfl⟩:=ownsRow_succ hown';obtain⟨hv1,hv2,hr2,hk2,hb2⟩:=hv.appended dC hrow hB.size (Nat.le_refl _) hown' hgrow;have hc1:=hv1.cell;have hf1:=hv1.frozen)
  exact⟨hk2.from _,hk2.walks,⟨_,hv2,by simpa using hr2,trivial⟩,hB.trans hb2⟩
 case done=>
  rintro D ys W hD hS ⟨⟨v,hv,hrow,_⟩,hB⟩ hK
  have hc:=hv.cell
  gi_wp2
  refine⟨by simp,.inl ⟨_,_,rfl,run_takeDeferred hK, ?_⟩⟩
  exact⟨_,results_tmp rfl _ _ _,v,ys,rfl,hS,ownsRow_putObj hrow _ hK rfl,hB.trans (belowK_b (w:=w) (Nat.le_refl _) W D _ _ (by simp at hD;omega) hK rfl rfl)⟩
 case stop=>
  rintro D c pre W _ _ h _
  exact h.elim
end so
namespace so
open Maps Shelf ChangeShapes WideShapes ChangeAt RowKit Proofs.YtjikimpejlmdiaaGreatDoor
attribute [local go_sem ↓] Go.wp_at_zero Go.wp_at_succ
open mach in
theorem asq_keys(Bm b:Nat)(bl:List Blk)(w:World)(hBm:Bm<w.heap.size)(hm:w.cell? ⟨Bm,0,none⟩=some (.map (some b)))(hown:PM Tryz.prog 22 b bl w)(hl:bl.length<=5000):Calls Tryz.prog 141 #[.slice none 0 0,.func (.func 112) #[] #[.pointer (some ⟨Bm,0,none⟩)]] w fun e w'=>∃(v:Value) (ss:List Int),e=.returned v/\Keys bl ss/\w'.ownsRow w.heap.size 22 1 v ss.length (ss.map (Value.int .u32))/\Below w.heap.size w w':=
 callsIn_wide.1 (asq_in 2 (Nat.le_refl _) 112 _ (enters_of Tryz.func112 kR rfl) _ bl.length hl w (keys_stops 1 (Nat.le_refl _) Bm b bl w hBm hm hown))
open mach in
theorem col_keys(Bm b:Nat)(bl:List Blk)(w:World)(hBm:Bm<w.heap.size)(hm:w.cell? ⟨Bm,0,none⟩=some (.map (some b)))(hown:PM Tryz.prog 22 b bl w)(hl:bl.length<=5000):Calls Tryz.prog 110 #[.func (.func 112) #[] #[.pointer (some ⟨Bm,0,none⟩)]] w fun e w'=>∃(v:Value) (ss:List Int),e=.returned v/\Keys bl ss/\w'.ownsRow w.heap.size 22 1 v ss.length (ss.map (Value.int .u32))/\Below w.heap.size w w':=by
 go_enter Tryz.func110,Tryz.ntmps110
 go_wp2_with (first|(go_at_call 141;refine(Calls.mono (asq_keys Bm b bl w hBm hm hown hl) ?_);rintro e9 w9 ⟨v,ss,rfl,k1,k2,k3⟩))
 go_ret
 exact⟨v,ss,rfl,k1,k2,k3⟩
open mach in
theorem keys_row{n:Nat}{bl:List Blk}{ss:List Int}{d d':Nat->Int}(hs:bl.Pairwise (fun a b=>a.pc<b.pc))(hk:Keys bl ss)(hn:ss.length=n)(hd:∀i,i<n->ss[i]?=some (d i))(r:Rr n 0 n d d')(hi:Inj n d)(sd:Sd 0 n d'):bl.length=n/\∀i b,bl[i]?=some b->d' i=b.pc:=by
 have hp:(bl.map (·.pc)).Pairwise (·<=·):=List.pairwise_map.2 (hs.imp fun h=>Int.le_of_lt h)
 have hnd:(bl.map (·.pc)).Nodup:=List.pairwise_map.2 (hs.imp fun h=>by omega)
 have hr:((List.range n).map d').Pairwise (·<=·):=List.pairwise_map.2 (List.pairwise_lt_range.imp_of_mem fun {a b} ha hb h=>sd a b (Nat.zero_le _) h (List.mem_range.1 hb))
 have hrn:((List.range n).map d').Nodup:=List.pairwise_map.2 (List.pairwise_lt_range.imp_of_mem fun {a b} ha hb h e=>by have:=r.inj hi a b (List.mem_range.1 ha) (List.mem_range.1 hb) e;omega)
 have hm:∀x,x∈(List.range n).map d' ↔ x∈bl.map (·.pc):=fun x=>by
  rw[List.mem_map,List.mem_map,<-hk.2 x]
  constructor
  ·rintro⟨i,h1,rfl⟩
   obtain⟨j,_,j2,j3⟩:=r.fw i (Nat.zero_le _) (List.mem_range.1 h1)
   rw[j3];exact List.mem_of_getElem? (hd j j2)
  ·intro h
   obtain⟨j,j1,j2⟩:=List.getElem_of_mem h
   have e:d j=x:=by have:=hd j oM;rw[List.getElem?_eq_getElem j1]at this;injection this with this;rw[<-this,j2]
   obtain⟨i,_,i2,i3⟩:=r.bw j (Nat.zero_le _) oM
   exact⟨i,List.mem_range.2 i2,by rw[<-i3,e]⟩
 have e:(List.range n).map d'=bl.map (·.pc):=List.Perm.eq_of_pairwise (le:=(·<=·)) (fun a b _ _ h1 h2=>Int.le_antisymm h1 h2) hr hp ((List.perm_ext_iff_of_nodup hrn hnd).2 hm)
 refine⟨by have:=congrArg List.length e;simpa using this.symm,fun i b hb=> ?_⟩
 have h1:(bl.map (·.pc))[i]?=some b.pc:=by rw[List.getElem?_map,hb];rfl
 rw[<-e,List.getElem?_map]at h1
 obtain⟨k,k1,k2⟩:=Option.map_eq_some_iff.1 h1
 have:=List.getElem?_eq_some_iff.1 k1
 obtain⟨q1,q2⟩:=this
 simp at q2;rw[q2];exact k2
theorem row_of{w:World}{g:Nat}{cur:Array Value}{t:TypeId}{ss:List Int}(hb:w.heap[g]?=some (.cells cur t (0,0)))(ht:cur.toList.take ss.length=ss.map (Value.int .u32)):RowU g ss.length (fun i=>ss.getD i 0) w:=by
 refine⟨fun i hi=> ?_,fun j=>by simp[World.frozen?,hb]⟩
 have h1:(cur.toList.take ss.length)[i]?=(ss.map (Value.int .u32))[i]?:=by rw[ht]
 rw[List.getElem?_take_of_lt hi]at h1
 simp only[World.cell?,hb]
 simp only[Option.isSome_none,Bool.false_eq_true,if_false]
 rw[<-Array.getElem?_toList,h1]
 simp[hi]
open mach in
def SorQ (bl:List Blk) (w:World) (e:Ending) (w':World):Prop:=∃(pk:Option Addr) (cap:Nat),e=.returned (.slice pk bl.length cap)/\(bl≠[]->∃g,pk=some ⟨g,0,none⟩/\∀i b,bl[i]?=some b->w'.cell? ⟨g,i,none⟩=some (.int .u32 b.pc))/\Below w.heap.size w w'
open mach in
theorem sor_keys(Bm b:Nat)(bl:List Blk)(w:World)(hBm:Bm<w.heap.size)(hm:w.cell? ⟨Bm,0,none⟩=some (.map (some b)))(hown:PM Tryz.prog 22 b bl w)(hl:bl.length<=5000)(hs:bl.Pairwise (fun a b=>a.pc<b.pc)):Calls Tryz.prog 85 #[.func (.func 112) #[] #[.pointer (some ⟨Bm,0,none⟩)]] w (SorQ bl w):=by
 go_enter Tryz.func85,Tryz.ntmps85
 go_upto_region 2 with(first|(go_at_call 110;refine(Calls.mono (col_keys Bm b bl w hBm hm hown hl) ?_);rintro e9 w9 ⟨v,ss,rfl,k1,k2,k3⟩))
 have hlen:ss.length=bl.length:=by
  have hnd:(bl.map (·.pc)).Nodup:=List.pairwise_map.2 (hs.imp fun h=>by omega)
  have:=((List.perm_ext_iff_of_nodup k1.1 hnd).2 fun x=>by rw[k1.2 x,List.mem_map]).length_eq
  simpa using this
 rcases k2.2 with⟨rfl,hz⟩|⟨gb,cap,cur,rfl,hbase,hgb,r1,r2,r3,r4⟩
 ·have hb0:bl=[]:=List.eq_nil_of_length_eq_zero oM
  have KB:Hid (Below w.heap.size w w9):=k3
  clear k1 k2 k3 hlen hz
  go_wp2_with (first|(go_at_call 111;refine(Calls.mono (sort_nil _) ?_);rintro e8 w8 ⟨rfl,hw8⟩;subst w8))
  go_ret
  exact⟨none,0,by rw[hb0];rfl,fun h=>absurd hb0 h,KB.out⟩
 ·have hinj:Inj ss.length (fun i=>ss.getD i 0):=fun i j hi hj e=>by
   simp only[List.getD_eq_getElem?_getD,List.getElem?_eq_getElem hi,List.getElem?_eq_getElem hj,Option.getD_some]at e
   exact(List.getElem_inj k1.1).1 e
  have HP:Hid (Calls Tryz.prog 111 #[.slice (some ⟨gb,0,none⟩) ss.length cap] w9 (PdqQ gb ss.length 0 ss.length (fun i=>ss.getD i 0) w9)):=sort_any gb ss.length cap _ w9 (row_of hgb (by simpa using r4)) oM hinj
  have KK:Hid (∀d',Rr ss.length 0 ss.length (fun i=>ss.getD i 0) d'->Sd 0 ss.length d'->∀i b,bl[i]?=some b->d' i=b.pc):=fun d' r sd=>(keys_row hs k1 rfl (fun i hi=>by rw[List.getD_eq_getElem?_getD,List.getElem?_eq_getElem hi];rfl) r hinj sd).2
  have KB:Hid (Below w.heap.size w w9):=k3
  have HLE:Hid (ss.length=bl.length):=hlen
  clear k1 k2 k3 hinj r1 r2 r3 r4 hgb hlen
  go_wp2_with (first|(go_at_call 111;refine(Calls.mono HP.out ?_);rintro e8 w8 ⟨rfl,d',q1,q2,q3,q4⟩))
  go_ret
  refine⟨some ⟨gb,0,none⟩,cap,by rw[<-HLE.out];rfl,fun _=>⟨gb,rfl,fun i b hb=> ?_⟩,KB.out.trans (q4.below KB.out.size (by simp;exact hbase))⟩
  rw[<-KK.out d' q2 q3 i b hb]
  exact q1.at' i (by have:=(List.getElem?_eq_some_iff.1 hb).1;have:=HLE.out;omega)
end so
namespace so
open Maps Shelf ChangeShapes WideShapes ChangeAt RowKit Proofs.YtjikimpejlmdiaaGreatDoor
attribute [local go_sem ↓] Go.wp_at_zero Go.wp_at_succ
theorem own_base{W:World}{a b:Nat}{e:TypeId}{size:Nat}{v:Value}{k:Nat}{xs:List Value}(h:W.ownsRow a e size v k xs)(hb:b<=a):W.ownsRow b e size v k xs:=by
 refine⟨h.1, ?_⟩
 rcases h.2 with q|⟨g,cap,cur,q1,q2,q3⟩
 ·exact Or.inl q
 ·exact Or.inr ⟨g,cap,cur,q1,Nat.le_trans hb q2,q3⟩
open mach in
theorem at0_of:∀{l:List Blk} {c:Blk},l.Pairwise (fun a b=>a.pc<b.pc)->c∈l->at0 l c.pc=c
 |x::r,c,h,hm=>by
  obtain⟨h1,h2⟩:=List.pairwise_cons.1 h
  rcases List.mem_cons.1 hm with rfl|hm
  ·simp[at0]
  ·have:x.pc≠c.pc:=by have:=h1 c hm;omega
   have ih:=at0_of h2 hm
   unfold at0 at ih ⊢
   rw[List.find?_cons_of_neg (by simp[this])];exact ih
theorem info_abk:(Tryz.prog.info? 44).map (fun i=>(i.zero,i.size,i.bytes))=some (some (.agg #[.int .u32 0,.int .i64 0,.int .i64 0,.int .i64 0]),4,32):=by kernel_rfl
open mach in
theorem list_any(b:Nat)(bl:List Blk)(w:World)(hown:PM Tryz.prog 22 b bl w)(hl:bl.length<=5000)(hs:bl.Pairwise (fun a b=>a.pc<b.pc))(hp:∀c∈bl,0<=c.pc/\c.pc<=4294967295):
  Calls Tryz.prog 58 #[.map (some b)] w fun e w'=>∃v,e=.returned v/\w'.ownsRow w.heap.size 44 4 v bl.length (ref.blkCells bl)/\Below w.heap.size w w':=by
 obtain⟨i0,hi,hz0,hz1,hz2⟩:=info_parts info_abk
 have HS:Hid (bl.Pairwise (fun a b=>a.pc<b.pc)):=hs
 have HPC:Hid (∀c∈bl,0<=c.pc/\c.pc<=4294967295):=hp
 have hb0:Below w.heap.size w (w.alloc (.cells #[.map (some b)] 87)):=(Below.refl _ w).alloc (Nat.le_refl _) _
 have HC:Hid (Calls Tryz.prog 85 #[.func (.func 112) #[] #[.pointer (some ⟨w.heap.size,0,none⟩)]] (w.alloc (.cells #[.map (some b)] 87)) (SorQ bl (w.alloc (.cells #[.map (some b)] 87)))):=sor_keys w.heap.size b bl _ sP sP (hown.keep (hb0.block b hown.lt)) hl hs
 have HO:Hid (PM Tryz.prog 22 b bl w):=hown
 clear hown hs hp
 go_enter Tryz.func58,Tryz.ntmps58
 go_wp2_with (first|(go_at_call 86;refine(Calls.mono (keys_any _ _) ?_);rintro e9 w9 ⟨rfl,hw9⟩;subst w9)|(go_at_call 85;refine(Calls.mono HC.out ?_);rintro e8 w2 ⟨pk,cap,rfl,k1,k2⟩;have K1:Hid (bl≠[]->∃g,pk=some ⟨g,0,none⟩/\∀i c,bl[i]?=some c->w2.cell? ⟨g,i,none⟩=some (.int .u32 c.pc)):=k1;have K2:Hid (Below w.heap.size w w2):=hb0.trans (k2.mono sP);clear k1 k2))
 have HO2:Hid (PM Tryz.prog 22 b bl w2):=HO.out.keep (K2.out.block b HO.out.lt)
 obtain⟨n,hn⟩:∃n,bl.length=n:=⟨_,rfl⟩
 have HN:Hid (bl.length=n):=hn
 rw[hn]at hl
 simp only[hn]
 clear hn
 go_loopw [3,10] (fun s t wr=>∃(i:Nat) (v:Value),s=v/\t=.int .i64 i/\i<=n/\wr.ownsRow w2.heap.size 44 4 v i (ref.blkCells (bl.take i))/\Below w2.heap.size w2 wr) (fun _ t _=>n-(intOf t).toNat)
 case atStart=>exact⟨0,_,rfl,rfl,Nat.zero_le _,World.ownsRow_nil _ _ _ _,Below.refl _ _⟩
 case round=>
  obtain⟨i,v,hv,rfl,hin,how,hbw⟩:=hrel
  replace hv:=hv.symm
  subst hv
  have HW:Hid (wr.ownsRow w2.heap.size 44 4 v i (ref.blkCells (bl.take i))):=how
  have HBW:Hid (Below w2.heap.size w2 wr):=hbw
  clear how hbw
  by_cases hi':i<n
  rotate_left
  ·have d1:decide ((i:Int)<(n:Int))=false:=by simp;omega
   go_wp2
   go_ret
   refine⟨v,rfl, ?_,K2.out.trans (HBW.out.mono K2.out.size)⟩
   have:=own_base HW.out K2.out.size
   rw[show i=bl.length by have:=HN.out;omega,List.take_length]at this
   exact this
  ·have d1:decide ((i:Int)<(n:Int))=true:=by simp;omega
   obtain⟨c,hc⟩:∃c,bl[i]?=some c:=⟨_,List.getElem?_eq_getElem (by have:=HN.out;omega)⟩
   have hcm:c∈bl:=List.mem_of_getElem? hc
   obtain⟨g,rfl,hg⟩:=K1.out (List.ne_nil_of_mem hcm)
   have cg:wr.cell? ⟨g,i,none⟩=some (.int .u32 c.pc):=(HBW.out.cell (p:=⟨g,i,none⟩) (World.block_lt_of_cell? _ _ (hg i c hc))).trans (hg i c hc)
   have HM:Hid (PM Tryz.prog 22 b bl wr):=HO2.out.keep (HBW.out.block b HO2.out.lt)
   have hq:at0 bl c.pc=c:=at0_of HS.out hcm
   obtain⟨c0,c1⟩:=HPC.out c hcm
   have HQ:Hid (ref.blkCells (bl.take (i+1))=ref.blkCells (bl.take i)++[Value.int .u32 c.pc,Value.int .i64 c.len,Value.int .i64 c.built,Value.int .i64 c.entered]):=(by
    show _=_
    rw[List.take_add_one,hc];simp[ref.blkCells])
   clear hg hc hcm
   have hz:w2.heap.size<=wr.heap.size:=HBW.out.size
   go_wp2_with (first|(at_lookup;refine wpl_look _ rfl _ _ 87 rfl 22 44 Tryz.underlying22 Tryz.underlying87 (prog.zero_abl _) b bl rfl HM.out c.pc c0 c1 rfl ?_;rw[hq];dsimp only[blkV,blkA])|(at_builtin;refine wpList_append_lies _ rF _ _ _ rF w2.heap.size 44 i0 _ 4 32 Tryz.underlying36 hi hz0 hz1 hz2 rF dC v i (ref.blkCells (bl.take i)) rF (HW.out.alloc _) ⟨wr.heap.size,0,none⟩ 1 1 [Value.int .u32 c.pc,Value.int .i64 c.len,Value.int .i64 c.built,Value.int .i64 c.entered] rF rF (World.news_of_block (World.alloc_heap_new wr _)) oC dC mL oM (by simpa using Nat.le_succ_of_le hz) (wr.heap.size+1) sP ?_;intro g2 cap2 w3 h1 h2 h3 h4))
   go_roundw
   case rel=>exact⟨i+1,_,rfl,by go_num,by omega,by rw[HQ.out];exact h1,(HBW.out.alloc hz _).grown h2 (by simp;omega) (fun k e=>(HW.out.lt k e).1)⟩
   case measure=>simp[intOf];omega
end so
end Go.Proofs.YtjikimpejlmdiaaGreatDoor

import Derived.Test.YtjikimpejlmdiaaGreatDoorZGa
import Derived.Maps.Ext
import Derived.Maps.OwnOps
import Derived.Maps.RangeWalk
set_option maxHeartbeats 4000000
set_option linter.unusedVariables false
set_option linter.unusedSimpArgs false
namespace Go.Proofs.YtjikimpejlmdiaaGreatDoor
namespace mach
open RowKit IntWalk Maps nums dnums
def blkA (x:Blk):Array Value:=#[.int .u32 x.pc,.int .i64 x.len,.int .i64 x.built,.int .i64 x.entered]
abbrev blkV (x:Blk):Value:=.agg (blkA x)
def blkD (x:Blk):DataW Unit:=.agg [.lit (.int .u32 x.pc),.lit (.int .i64 x.len),.lit (.int .i64 x.built),.lit (.int .i64 x.entered)]
def blkR (v:Value):Option (DataW Unit × List MemPlace):=
 match v with
 | .agg a=>(match a.toList with
  |[.int .u32 p,.int .i64 l,.int .i64 b,.int .i64 e]=>some (blkD ⟨p,l,b,e⟩,[])
  |_=>none)
 |_=>none
theorem blkR_mk(x:Blk):blkR (blkV x)=some (blkD x,[]):=rfl
theorem blkR_inv{v:Value}{y:DataW Unit × List MemPlace}(h:blkR v=some y):∃x,v=blkV x/\y=(blkD x,[]):=by
 unfold blkR at h
 split at h
 ·rename_i a
  split at h
  ·rename_i p l b e ha
   cases h
   refine⟨⟨p,l,b,e⟩, ?_,rfl⟩
   have:a=blkA ⟨p,l,b,e⟩:=by rw[<-Array.toList_inj,ha];rfl
   rw[this]
  ·cases h
 ·cases h
theorem blkD_inj{x y:Blk}(h:blkD x=blkD y):x=y:=by
 cases x;cases y;simp[blkD]at h;simp[h]
def blkL (l:List Blk):DataW Unit:=.map (l.map fun x=>(Lit.int .u32 x.pc,blkD x))
theorem blkL_at(l:List Blk)(pc:Int):(blkL l).atKey (.int .u32 pc) (blkD ⟨0,0,0,0⟩)=blkD (at0 l pc):=by
 unfold blkL at0 DataW.atKey
 dsimp only
 induction l with
 |nil=>rfl
 |cons x r ih=>
  by_cases c:x.pc=pc
  ·simp[Lit.sameKey,c]
  ·rw[List.map_cons,List.find?_cons_of_neg (by simp[Lit.sameKey,c]),ih,List.find?_cons_of_neg (by simp[c])]
theorem blkL_mem{l:List Blk}{pc:Int}{c:Blk}(h:∀zd,(blkL l).atKey (.int .u32 pc) zd=blkD c):c∈l/\c.pc=pc:=by
 have h1:=h .nil
 unfold blkL DataW.atKey at h1
 dsimp only at h1
 cases hf:(l.map fun x=>(Lit.int .u32 x.pc,blkD x)).find? (fun p=>p.1.sameKey (.int .u32 pc))with
 |none=>rw[hf]at h1;exact absurd h1 (by simp[blkD])
 |some p=>
  rw[hf]at h1
  have hm:=List.mem_of_find?_eq_some hf
  have hk:=List.find?_some hf
  obtain⟨x,hx,rfl⟩:=List.mem_map.1 hm
  have e:x=c:=blkD_inj h1
  subst e
  exact⟨hx,by simpa [Lit.sameKey]using hk⟩
theorem filter_no{l:List Blk}{pc:Int}(h:∀x∈l,x.pc≠pc):(l.map fun x=>(Lit.int .u32 x.pc,blkD x)).filter (fun p=> !p.1.sameKey (.int .u32 pc))=l.map fun x=>(Lit.int .u32 x.pc,blkD x):=by
 rw[List.filter_eq_self]
 intro p hp
 obtain⟨x,hx,rfl⟩:=List.mem_map.1 hp
 have:=h x hx
 simp[Lit.sameKey,this]
theorem blkL_put:∀{l:List Blk} (y:Blk),l.Pairwise (fun a b=>a.pc<b.pc)->(blkL l).put (.int .u32 y.pc) (blkD y)=blkL (insB l y):=by
 intro l y h
 unfold blkL
 rw[DataW.put_eq]
 congr 1
 show DataW.insert _ (List.filter (fun p=> !p.1.sameKey (.int .u32 y.pc)) _)=_
 induction l with
 |nil=>rfl
 |cons x r ih=>
  obtain⟨h1,h2⟩:=List.pairwise_cons.1 h
  rcases Int.lt_trichotomy x.pc y.pc with c|c|c
  ·rw[List.map_cons,List.filter_cons_of_pos (by simp[Lit.sameKey];omega),DataW.insert,if_neg (by simp[Lit.before];omega),ih h2,insB,if_pos c];rfl
  ·rw[List.map_cons,List.filter_cons_of_neg (by simp[Lit.sameKey,c]),filter_no (fun z hz=>by have:=h1 z hz;omega),insB,if_neg oM,if_pos c]
   cases r with
   |nil=>rfl
   |cons z q=>rw[List.map_cons,DataW.insert,if_pos (by have:=h1 z sP;simp[Lit.before];omega)];rfl
  ·rw[filter_no (fun z hz=>by rcases List.mem_cons.1 hz with rfl|hz;(· omega);have:=h1 z hz;omega),insB,if_neg oM,if_neg oM,List.map_cons,DataW.insert,if_pos (by simp[Lit.before];omega)];rfl
def PM (P:Program) (k:TypeId) (p:Nat) (l:List Blk) (w:World):Prop:=w.ownsMap P k blkR p l.length (blkL l)
theorem PM.of {P:Program}{k:TypeId}{p n:Nat}{l:List Blk}{w:World}(h:w.ownsMap P k blkR p n (blkL l)):PM P k p l w:=by
 obtain⟨es,cl,h1,h2,h3,h4⟩:=h
 refine⟨es,cl,h1,h2, ?_,h4⟩
 injection h4 with h4
 have:=congrArg List.length h4
 rw[length_sorted]at this
 simp at this
 omega
theorem PM.made (P:Program)(k:TypeId)(w:World):PM P k w.heap.size [] (w.alloc (.map #[] 0)):=World.ownsMap_made w P k blkR
theorem PM.lt {P:Program}{k:TypeId}{p:Nat}{l:List Blk}{w:World}(h:PM P k p l w):p<w.heap.size:=World.ownsMap.lt h
theorem PM.keep {P:Program}{k:TypeId}{p:Nat}{l:List Blk}{w w':World}(h:PM P k p l w)(e:w'.heap[p]?=w.heap[p]?):PM P k p l w':=by
 obtain⟨es,cl,h1,h2⟩:=h
 exact⟨es,cl,e.trans h1,h2⟩
theorem PM.no {P:Program}{k:TypeId}{p:Nat}{l:List Blk}{w:World}(h:PM P k p l w)(i:Nat):w.cell? ⟨p,i,none⟩=none:=by
 obtain⟨es,cl,h1,h2⟩:=h
 simp[World.cell?,h1]
def lsum (l:List Blk) (left:Lit->Bool):Int:=((l.filter fun x=>left (.int .u32 x.pc)).map (·.built)).sum
theorem lsum_congr:∀{l:List Blk} {f g:Lit->Bool},(∀x∈l,f (.int .u32 x.pc)=g (.int .u32 x.pc))->lsum l f=lsum l g:=by
 intro l f g h
 unfold lsum
 rw[List.filter_congr h]
theorem lsum_cons(x:Blk)(r:List Blk)(f:Lit->Bool):lsum (x::r) f=(if f (.int .u32 x.pc)then x.built else 0)+lsum r f:=by
 unfold lsum
 cases e:f (.int .u32 x.pc)<;>simp[List.filter_cons,e]
theorem lsum_step:∀{l:List Blk} {f:Lit->Bool} {c:Blk},l.Pairwise (fun a b=>a.pc<b.pc)->c∈l->f (.int .u32 c.pc)=true->lsum l f=lsum l (fun z=>f z&& !z.sameKey (.int .u32 c.pc))+c.built
 |x::r,f,c,h,hc,hf=>by
  obtain⟨h1,h2⟩:=List.pairwise_cons.1 h
  rw[lsum_cons,lsum_cons]
  rcases List.mem_cons.1 hc with rfl|hc
  ·rw[if_pos hf,if_neg (by simp[Lit.sameKey]),lsum_congr (l:=r) (f:=f) (g:=fun z=>f z&& !z.sameKey (.int .u32 c.pc)) (fun y hy=>by have:=h1 y hy;simp[Lit.sameKey];omega)]
   omega
  ·have:=h1 c hc
   rw[lsum_step h2 hc hf,show(f (.int .u32 x.pc)&& !Lit.sameKey (.int .u32 x.pc) (.int .u32 c.pc))=f (.int .u32 x.pc)by simp[Lit.sameKey];omega]
   omega
theorem lsum_bd:∀{l:List Blk} {f:Lit->Bool},(∀x∈l,0<=x.built)->0<=lsum l f/\lsum l f<=bsum l
 |[],_,_=>by simp[lsum,bsum]
 |x::r,f,h=>by
  have hx:=h x sP
  have i:=lsum_bd (l:=r) (f:=f) (fun y hy=>h y (by simp[hy]))
  rw[lsum_cons,show bsum (x::r)=x.built+bsum r by simp[bsum]]
  cases f (.int .u32 x.pc)<;>simp<;>omega
theorem lsum_all(l:List Blk):lsum l (has (blkL l))=bsum l:=by
 unfold lsum bsum
 rw[List.filter_eq_self.2 (fun x hx=> ?_)]
 show(l.map fun x=>(Lit.int .u32 x.pc,blkD x)).any (fun p=>p.1.sameKey _)=true
 exact List.any_eq_true.2 ⟨_,List.mem_map.2 ⟨x,hx,rfl⟩,by simp[Lit.sameKey]⟩
theorem lsum_none{l:List Blk}{f:Lit->Bool}(h:∀k,f k=false):lsum l f=0:=by
 unfold lsum
 rw[List.filter_eq_nil_iff.2 (fun x _=>by rw[h];decide)];rfl
section
variable {P:Program} (w:World) {ops:Array Oper} {rest:List Oper} {o:Oper} {a:Act} {Q:Exit->Act->World->Prop}
theorem wpl_look(hg:o.guard=none)(m x:Operand)(t:TypeId)(hop:o.op=Op.lookup t m x false)(k e:TypeId)(hk:P.underlying k=some (.int .u32))(ht:P.underlying t=some (.map k e))(hz:(zeroValue e).run P w=.ok (blkV ⟨0,0,0,0⟩) w)(p:Nat)(l:List Blk)
  (hm:a.eval m=.map (some p)) (h:PM P k p l w) (c:Int) (c0:0<=c) (c1:c<=4294967295) (hx:a.eval x=.int .u32 c) (hK:wpList P ops Q rest (a.put o.dst (blkV (at0 l c))) w):wpList P ops Q (o::rest) a w:=by
 refine wpList_plain hg fun K' hK'=> ?_
 have hw:(Lit.int .u32 c).wf=true:=by simp[Lit.wf,IntKind.min,IntKind.max,IntKind.signed,IntKind.bits];omega
 obtain⟨v,ps,hrun,hv⟩:=World.ownsMap.lookup h (int_keyed hk) ht hz (blkR_mk _) (keyOf_int_mk hk hw)
 rw[blkL_at]at hv
 obtain⟨y,rfl,e⟩:=blkR_inv hv
 simp only[Prod.mk.injEq]at e
 have:=blkD_inj e.1
 subst this
 unfold Oper.wp
 simp[execOp,hop,hm,hx,hrun,Result.andThen]
 exact hK' _ _ hK
theorem wpl_store(hg:o.guard=none)(m x v:Operand)(t:TypeId)(hop:o.op=Op.mapUpdate t m x v)(k e:TypeId)(hk:P.underlying k=some (.int .u32))(ht:P.underlying t=some (.map k e))(p:Nat)(l:List Blk)
  (hm:a.eval m=.map (some p)) (h:PM P k p l w) (hs:l.Pairwise (fun a b=>a.pc<b.pc)) (hn:l.length<=100000) (y:Blk) (c0:0<=y.pc) (c1:y.pc<=4294967295) (hx:a.eval x=.int .u32 y.pc) (hv:a.eval v=blkV y)
  (hK:∀w',PM P k p (insB l y) w'->w.grownBy w' (some p)->wpList P ops Q rest (a.put o.dst undef) w'):wpList P ops Q (o::rest) a w:=by
 have hw:(Lit.int .u32 y.pc).wf=true:=by simp[Lit.wf,IntKind.min,IntKind.max,IntKind.signed,IntKind.bits];omega
 refine wpList_mapUpdate_own w hg m x v t hop k e (int_keyed hk) ht blkR p l.length (blkL l) hm h mL _ _ _ hx hv (keyOf_int_mk hk hw) _ _ (blkR_mk y) (fun w' h1 h2=>hK w' ?_ h2)
 rw[blkL_put y hs]at h1
 exact PM.of h1
theorem wpl_range(hg:o.guard=none)(m:Operand)(t:TypeId)(hop:o.op=Op.range t m)(k e:TypeId)(hk:P.underlying k=some (.int .u32))(ht:P.underlying t=some (.map k e))(p:Nat)(l:List Blk)(hm:a.eval m=.map (some p))(h:PM P k p l w)
  (hK:∀w',w'.ranges P k blkR p w.heap.size l.length (blkL l) (has (blkL l)) (Maps.size (blkL l))->w.grownBy w' none->w'.heap.size=w.heap.size+1->wpList P ops Q rest (a.put o.dst (.pointer (some ⟨w.heap.size,0,none⟩))) w'):wpList P ops Q (o::rest) a w:=
 wpList_range_own w hg m t hop k e (int_keyed hk) ht blkR p l.length (blkL l) hm h hK
theorem wpl_next(hg:o.guard=none)(it:Operand)(hop:o.op=Op.next it false)(k:TypeId)(hk:P.underlying k=some (.int .u32))(p r:Nat)(l:List Blk)(left:Lit->Bool)(cnt:Nat)(hit:a.eval it=.pointer (some ⟨r,0,none⟩))(h:w.ranges P k blkR p r l.length (blkL l) left cnt)
  (hDone:cnt=0->(∀kl,left kl=false)->wpList P ops Q rest (a.put o.dst (.tuple #[.bool false])) w)
  (hMore:∀(c:Blk) (w':World) (cnt':Nat),c∈l->left (.int .u32 c.pc)=true->w'.ranges P k blkR p r l.length (blkL l) (fun z=>left z&& !z.sameKey (.int .u32 c.pc)) cnt'->cnt'<cnt->w.grownBy w' (some r)->w'.heap.size=w.heap.size->(Instr.entry (.pointer (some ⟨r,0,none⟩))).run P w'=.ok (.tuple #[.int .u32 c.pc,blkV c]) w'->wpList P ops Q rest (a.put o.dst (.tuple #[.bool true,.int .u32 c.pc,blkV c])) w'):wpList P ops Q (o::rest) a w:=by
 refine wpList_next_ranges w hg it hop k (int_keyed hk) blkR (Value.int .u32) blkV (fun key kl hkey=> ?_) (fun v y hv=> ?_) p r l.length (blkL l) left cnt hit h hDone (fun x c kl y w' cnt' hkey hlk hv hat hrg hlt hgr hsz hen=> ?_)
 ·obtain⟨x,rfl,_⟩:=keyOf_int_inv hk hkey;exact⟨x,rfl⟩
 ·obtain⟨x,rfl,_⟩:=blkR_inv hv;exact⟨x,rfl⟩
 ·obtain⟨x',ex,rfl,_⟩:=keyOf_int_inv hk hkey
  cases ex
  rw[blkR_mk]at hv
  cases hv
  obtain⟨m1,m2⟩:=blkL_mem hat
  subst m2
  exact hMore c w' cnt' m1 hlk hrg hlt hgr hsz hen
end
end mach
end Go.Proofs.YtjikimpejlmdiaaGreatDoor

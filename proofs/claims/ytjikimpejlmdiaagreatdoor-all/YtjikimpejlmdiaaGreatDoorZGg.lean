import Derived.Test.YtjikimpejlmdiaaGreatDoorZMapP
import Derived.Test.YtjikimpejlmdiaaGreatDoorZGb
import Derived.Test.YtjikimpejlmdiaaGreatDoorZGa
import Derived.Test.YtjikimpejlmdiaaGreatDoorZGj
import Derived.BigRegion
import Derived.BigQuiet
import Derived.Laws.IdiomCopy
import Derived.Deep.MidRow
import Derived.Recover
import Derived.Defers
set_option maxHeartbeats 4000000
set_option linter.unusedVariables false
set_option linter.unusedSimpArgs false
set_option maxRecDepth 10000
namespace Go.Proofs.YtjikimpejlmdiaaGreatDoor
theorem X70{p:Prop}(h:p:=by
 go_enter Tryz.func103,Tryz.ntmps103
 go_wp2
 go_ret
 exact⟨rfl,rfl⟩):p:=h
theorem X71{p:Prop}(h:p:=by
 have:=run_loadVar_mid (P:=P) w g 0 ty cs d hc hu hd hi
 have hp2:tmps[p]?.getD undef=.pointer (some ⟨g,0,none⟩):=by simpa using hp
 simp only[results,h]
 simp[Sem.run_bind,Result.andThen,hp2,asAddr,this]):p:=h
theorem X72{p:Prop}(h:p:=by
 go_enter Tryz.func74,Tryz.ntmps74
 go_wp2_with (first|(go_at_call 76;refine(end_any al _).mono ?_;rintro e w' ⟨rfl,hw'⟩;subst w'))
 exact⟨rfl,rfl,rfl⟩):p:=h
theorem X73{p:Prop}(h:p:=by exact⟨rfl,rfl,rfl⟩):p:=h
theorem X74{p:Prop}(h:p:=by
 go_wp2
 go_end0
 exact⟨rfl,HAT.out,(ref.Touch.refl _ _).setCell sP _⟩):p:=h
theorem X75{p:Prop}(h:p:=by
 go_end0
 exact⟨rfl,rfl⟩):p:=h
theorem X76{p:Prop}(h:p:=by intro e;injection e with _ e;omega):p:=h
namespace prog
open ChangeShapes WideShapes ChangeAt RowKit nums dnums mach
theorem tR(S:List Nat)(w:World):ref.Touch S w w:=ref.Touch.refl S w
theorem tD{S:List Nat}{u v:World}(h:ref.Touch S u v):ref.Touch S u v.drew:=h.drew
theorem tN{S:List Nat}{u v:World}(h:ref.Touch S u v)(n:Nat):ref.Touch S u (v.drewN n):=h.drewN n
theorem tch{p:Prop}(h:p:=by repeat' (first|with_reducible exact tR _ _|with_reducible apply tD|with_reducible apply tN|assumption)):p:=h
theorem tca{p:Prop}(h:p:=by repeat' (first|with_reducible exact ref.Touch.refl _ _|with_reducible apply ref.Touch.drew|with_reducible apply ref.Touch.drewN|with_reducible apply ref.Touch.alloc|assumption)):p:=h
theorem tcb{p:Prop}(h:p:=by repeat' (first|with_reducible exact ref.Touch.refl _ _|with_reducible apply ref.Touch.drew|with_reducible apply ref.Touch.drewN|with_reducible apply ref.Touch.alloc|assumption|exact ref.Touch.trans ((ref.Touch.refl [] _).alloc _) (by assumption))):p:=h
def hitp (fr tq a:Int):Bool:=decide (fr<tq/\fr/64<=a/64/\a/64<=(tq-1)/64)
theorem pageHas_any(a fr tq:Int)(vS:Value)(hv:vS.oneCell'=true)(a0:0<=a)(a1:a<=1000000)(w:World):
  Calls Tryz.prog 184 #[.agg #[.int .u32 a,vS],.int .u32 fr,.int .u32 tq] w fun e w'=>e=.returned (.bool (hitp fr tq a))/\ref.Touch [] w w':=by
 go_enter Tryz.func184,Tryz.ntmps184
 go_wp2
 all_goals go_ret
 all_goals refine⟨congrArg (fun b=>Ending.returned (Value.bool b)) (decide_eq_decide.2 ?_),(ref.Touch.refl _ _).alloc _⟩
 all_goals omega
structure RowIn (sb n:Nat) (g:Nat->Int × Value) (w:World):Prop where
 pcs:∀i,i<n->w.cell? ⟨sb,i*2,none⟩=some (.int .u32 (g i).1)
 vs:∀i,i<n->w.cell? ⟨sb,i*2+1,none⟩=some (g i).2
 free:∀j,w.frozen? ⟨sb,j,none⟩=false
theorem RowIn.upd {sb n k:Nat}{g:Nat->Int × Value}{w:World}(h:RowIn sb n g w)(hk:k<n)(p:Int)(q:Value):
  RowIn sb n (fun i=>if i=k then(p,q)else g i) ((w.setCell ⟨sb,k*2,none⟩ (.int .u32 p)).setCell ⟨sb,k*2+1,none⟩ q):=by
 refine⟨fun i hi=> ?_,fun i hi=> ?_,fun j=> ?_⟩
 ·rw[World.cell?_setCell_other _ _ _ _ X76]
  by_cases e:i=k
  ·subst e
   rw[World.cell?_setCell_same _ _ _ (h.pcs i hi),if_pos rfl]
  ·rw[World.cell?_setCell_other _ _ _ _ X76,if_neg e];exact h.pcs i hi
 ·by_cases e:i=k
  ·subst e
   rw[World.cell?_setCell_same _ _ _ ((World.cell?_setCell_other _ _ _ _ X76).trans (h.vs i hi)),if_pos rfl]
  ·rw[World.cell?_setCell_other _ _ _ _ X76,World.cell?_setCell_other _ _ _ _ X76,if_neg e];exact h.vs i hi
 ·rw[World.frozen?_setCell,World.frozen?_setCell];exact h.free j
theorem RowIn.congr {sb n:Nat}{f g:Nat->Int × Value}{w:World}(h:RowIn sb n f w)(e:∀i,i<n->g i=f i):RowIn sb n g w:=
 ⟨fun i hi=>by rw[e i hi];exact h.pcs i hi,fun i hi=>by rw[e i hi];exact h.vs i hi,h.free⟩
theorem RowIn.other {sb n:Nat}{f:Nat->Int × Value}{w w':World}(h:RowIn sb n f w)(hn:0<n){S:List Nat}(t:ref.Touch S w w')(e:sb∉S):RowIn sb n f w':=by
 have l:sb<w.heap.size:=World.block_lt_of_cell? _ _ (h.pcs 0 hn)
 exact⟨fun i hi=>(t.cell (p:=⟨sb,_,none⟩) l e).trans (h.pcs i hi),fun i hi=>(t.cell (p:=⟨sb,_,none⟩) l e).trans (h.vs i hi),fun j=>(t.frozen (p:=⟨sb,j,none⟩) l e).trans (h.free j)⟩
def nilV:Value:=.slice none 0 0
def partP (g:Nat->Int × Value) (fr tq:Int) (k i:Nat):Int × Value:=if i<k/\hitp fr tq (g i).1=true then(0,nilV)else g i
theorem if_eqv{α:Type}{p q:Prop} [Decidable p] [Decidable q] (h:p ↔ q)(a b:α):(if p then a else b)=if q then a else b:=by
 by_cases c:p
 ·rw[if_pos c,if_pos (h.1 c)]
 ·rw[if_neg c,if_neg (fun d=>c (h.2 d))]
theorem partP_step(f:Nat->Int × Value)(a n:Int)(k i:Nat)(hh:hitp a n (f k).1=true):partP f a n (k+1) i=if i=k then(0,nilV)else partP f a n k i:=by
 unfold partP
 by_cases e:i=k
 ·subst e;simp[hh]
 ·simp[e,show(i<k+1)=(i<k)from by simp;omega]
theorem partP_skip(f:Nat->Int × Value)(a n:Int)(k i:Nat)(hh:hitp a n (f k).1=false):partP f a n (k+1) i=partP f a n k i:=by
 unfold partP
 by_cases e:i=k
 ·subst e;simp[hh]
 ·simp[show(i<k+1)=(i<k)from by simp;omega]
theorem partP_at(f:Nat->Int × Value)(a n:Int)(k:Nat):partP f a n k k=f k:=by simp[partP]
theorem partP_0(f:Nat->Int × Value)(a n:Int)(i:Nat):partP f a n 0 i=f i:=by simp[partP]
theorem partP_all(f:Nat->Int × Value)(a n:Int)(k i:Nat)(h:i<k):partP f a n k i=if hitp a n (f i).1 then(0,nilV)else f i:=by simp[partP,h]
def zeroL (n:Nat):List Value:=(List.range (n*2)).map fun i=>if i%2=0 then Value.int .u32 0 else nilV
theorem zeroL_at(n j:Nat)(h:j<(zeroL n).length):(zeroL n)[j]=if j%2=0 then Value.int .u32 0 else nilV:=by simp[zeroL]
theorem zero_blk(w:World):(zeroValue 128).run Tryz.prog w=.ok (.agg #[.int .u32 0,.slice none 0 0]) w:=by kernel_rfl
theorem clear_row(w:World)(ty:TypeId)(sb o n c:Nat)(hn:0<n)(hc:∀j,j<n*2->(w.cell? ⟨sb,o+j,none⟩).isSome=true)(hf:∀j,w.frozen? ⟨sb,j,none⟩=false):
  (Builtin.clear_ #[85] ty #[.slice (some ⟨sb,o,none⟩) n c]).run Tryz.prog w=.ok (.tuple #[]) (w.setCells sb o (zeroL n)):=by
 have hzc:(Builtin.zeroCells (Value.agg #[.int .u32 0,.slice none 0 0]).cells n).toList=zeroL n:=by
  simp[Builtin.zeroCells,Value.cells,zeroL,nilV]
  intro i hi
  rcases Nat.mod_two_eq_zero_or_one i with e|e<;>simp[e]
 have hl:(zeroL n).length=n*2:=by simp[zeroL]
 have hst:=run_storeCells_cells (P:=Tryz.prog) sb o (zeroL n) 0 w (by rw[hl];simpa using hc) (fun j _=>hf _) (by
  intro v hv
  obtain⟨i,_,rfl⟩:=List.mem_map.1 hv
  rcases Nat.mod_two_eq_zero_or_one i with e|e<;>simp[e,nilV,Value.oneCell'])
 simp only[Nat.add_zero]at hst
 obtain⟨m,rfl⟩:∃m,n=m+1:=⟨n-1,by omega⟩
 simp[Builtin.clear_,run_underlying Tryz.underlying85,zero_blk,hzc,hst]
theorem RowIn.there {sb n:Nat}{g:Nat->Int × Value}{w:World}(h:RowIn sb n g w)(j:Nat)(hj:j<n*2):(w.cell? ⟨sb,j,none⟩).isSome=true:=by
 rcases Nat.mod_two_eq_zero_or_one j with e|e
 ·rw[show j=(j/2)*2 by omega,h.pcs _ oM];rfl
 ·rw[show j=(j/2)*2+1 by omega,h.vs _ oM];rfl
theorem RowIn.zero {sb n:Nat}{g:Nat->Int × Value}{w:World}(h:RowIn sb n g w)(k l:Nat)(hk:k+l<=n):RowIn sb n (fun i=>if k<=i/\i<k+l then(0,nilV)else g i) (w.setCells sb (k*2) (zeroL l)):=by
 have hl:(zeroL l).length=l*2:=by simp[zeroL]
 have hin:∀j,j<l*2->(w.setCells sb (k*2) (zeroL l)).cell? ⟨sb,k*2+j,none⟩=some (if j%2=0 then Value.int .u32 0 else nilV):=fun j hj=>by
  rw[World.cell?_setCells_in sb (zeroL l) (k*2) w (fun j hj=>h.there _ oM) j oM,zeroL_at]
 have hout:∀j,(j<k*2\/k*2+l*2<=j)->(w.setCells sb (k*2) (zeroL l)).cell? ⟨sb,j,none⟩=w.cell? ⟨sb,j,none⟩:=fun j hj=>World.cell?_setCells_out _ _ _ _ _ (fun _ _=>by rw[hl];exact hj)
 refine⟨fun i hi=> ?_,fun i hi=> ?_,fun j=>by rw[World.frozen?_setCells];exact h.free j⟩
 ·by_cases c:k<=i/\i<k+l
  ·rw[if_pos c,show i*2=k*2+(i-k)*2 by omega,hin _ oM,if_pos oM]
  ·rw[if_neg c,hout _ oM];exact h.pcs i hi
 ·by_cases c:k<=i/\i<k+l
  ·rw[if_pos c,show i*2+1=k*2+((i-k)*2+1)by omega,hin _ oM,if_neg oM]
  ·rw[if_neg c,hout _ oM];exact h.vs i hi
theorem touch_setsP{S:List Nat}{b:Nat}(hb:b∈S):∀(vs:List Value) (o:Nat) (u w:World),ref.Touch S u w->ref.Touch S u (w.setCells b o vs)
 |[],_,_,_,h=>h
 |v::r,o,u,w,h=>touch_setsP hb r (o+1) u _ (h.setCell hb v)
theorem forget_in(b sb n:Nat)(g:Nat->Int × Value)(w:World)(hs:RowIn sb n g w)(ne:b≠sb)(hn:n<=64)(hn0:0<n)(ca:Nat)(cS:w.cell? ⟨b,ca,none⟩=some (.slice (some ⟨sb,0,none⟩) n n))
  (hp:∀i,i<n->0<=(g i).1/\(g i).1<=1000000) (hv:∀i,i<n->∃o l c,(g i).2=.slice o l c) (fr tq:Int):
  Calls Tryz.prog 182 #[.pointer (some ⟨b,ca,none⟩),.int .u32 fr,.int .u32 tq] w fun e w'=>e=.returned (.tuple #[])/\RowIn sb n (fun i=>if hitp fr tq (g i).1 then(0,nilV)else g i) w'/\ref.Touch [sb] w w':=by
 have lb:b<w.heap.size:=World.block_lt_of_cell? _ _ cS
 have ls:sb<w.heap.size:=World.block_lt_of_cell? _ _ (hs.pcs 0 hn0)
 have HS:Hid (RowIn sb n g w):=hs
 have HP:Hid (∀i,i<n->0<=(g i).1/\(g i).1<=1000000):=hp
 have HV:Hid (∀i,i<n->∃o l c,(g i).2=.slice o l c):=hv
 clear hs hp hv
 go_enter Tryz.func182,Tryz.ntmps182
 go_wp2
 go_loopw [13] (fun i wr=>∃k:Nat,k<=n/\i=.int .i64 k/\RowIn sb n (partP g fr tq k) wr/\ref.Touch [sb] w wr) (fun i _=>n-(intOf i).toNat)
 case atStart=>exact⟨0,Nat.zero_le _,rfl,HS.out.congr (fun i _=>partP_0 _ _ _ i),ref.Touch.refl _ _⟩
 case round=>
  obtain⟨k,hk,rfl,hsl,ht⟩:=hrel
  have cSr:wr.cell? ⟨b,ca,none⟩=some (.slice (some ⟨sb,0,none⟩) n n):=(ht.cell (p:=⟨b,ca,none⟩) lb (by simpa using ne)).trans cS
  have HT:Hid (ref.Touch [sb] w wr):=ht
  have HL:Hid (RowIn sb n (partP g fr tq k) wr):=hsl
  by_cases hlt:k<n
  ·obtain⟨p,hpk⟩:∃p,p=(g k).1:=⟨_,rfl⟩
   obtain⟨ov,lv,cv,hvk⟩:=HV.out k hlt
   have q0:0<=p:=by rw[hpk];exact(HP.out k hlt).1
   have q1:p<=1000000:=by rw[hpk];exact(HP.out k hlt).2
   have cp:wr.cell? ⟨sb,k*2,none⟩=some (.int .u32 p):=by have:=hsl.pcs k hlt;rw[partP_at]at this;rw[hpk];exact this
   have cl:wr.cell? ⟨sb,k*2+1,none⟩=some (.slice ov lv cv):=by have:=hsl.vs k hlt;rw[partP_at]at this;rw[<-hvk];exact this
   have lbr:b<wr.heap.size:=World.block_lt_of_cell? _ _ cSr
   have HPK:Hid (p=(g k).1):=hpk
   clear hsl ht hpk hvk
   cases hh:hitp fr tq p with
   |false=>
    have HN:Hid (∀w2,ref.Touch [] wr w2->RowIn sb n (partP g fr tq (k+1)) w2):=fun w2 t=>(HL.out.other hn0 t sP).congr (fun i _=>partP_skip _ _ _ _ _ (by rw[<-HPK.out];exact hh))
    go_wp2_with (first|(go_at_call 184;refine(Calls.mono (pageHas_any p fr tq _ rfl q0 q1 _) ?_);rintro e w2 ⟨rfl,ht2⟩;have T2:Hid (ref.Touch [] wr w2):=((ref.Touch.refl _ _).alloc _).trans ht2;clear ht2;rw[hh]))
    go_roundw
    case rel=>exact⟨k+1,by omega,by go_num,HN.out _ T2.out,HT.out.trans (T2.out.mono sP)⟩
    case measure=>simp[intOf];omega
   |true=>
    go_wp2_with (first|(go_at_call 184;refine(Calls.mono (pageHas_any p fr tq _ rfl q0 q1 _) ?_);rintro e w2 ⟨rfl,ht2⟩;have T2:Hid (ref.Touch [] wr w2):=((ref.Touch.refl _ _).alloc _).trans ht2;clear ht2;have c2:w2.cell? ⟨b,ca,none⟩=some (.slice (some ⟨sb,0,none⟩) n n):=(T2.out.cell (p:=⟨b,ca,none⟩) lbr sP).trans cSr;have hcl:∀ty,(Builtin.clear_ #[85] ty #[.slice (some ⟨sb,k*2,none⟩) 1 (n-k)]).run Tryz.prog w2=.ok (.tuple #[]) (w2.setCells sb (k*2) (zeroL 1)):=(fun ty=>clear_row w2 ty sb (k*2) 1 (n-k) dC (fun j hj=>(HL.out.other hn0 T2.out sP).there _ oM) (HL.out.other hn0 T2.out sP).free);rw[hh]))
    go_roundw
    case rel=>exact⟨k+1,by omega,by go_num,((HL.out.other hn0 T2.out sP).zero k 1 oM).congr (fun i _=>(partP_step _ _ _ _ _ (by rw[<-HPK.out];exact hh)).trans (if_eqv oM _ _)),touch_setsP sP _ _ _ _ (HT.out.trans (T2.out.mono sP))⟩
    case measure=>simp[intOf];omega
  ·have HF:Hid (RowIn sb n (fun i=>if hitp fr tq (g i).1 then(0,nilV)else g i) wr):=hsl.congr (fun i hi=>(partP_all _ _ _ _ _ oM).symm)
   clear hsl ht
   go_wp2
   go_end0
   exact⟨rfl,HF.out,HT.out⟩
theorem forget_no(b ca:Nat)(w:World)(cS:w.cell? ⟨b,ca,none⟩=some (.slice none 0 0))(fr tq:Int):
  Calls Tryz.prog 182 #[.pointer (some ⟨b,ca,none⟩),.int .u32 fr,.int .u32 tq] w fun e w'=>e=.returned (.tuple #[])/\w'=w:=by
 go_enter Tryz.func182,Tryz.ntmps182
 go_wp2
 go_loopw [13] (fun i wr=>i=.int .i64 0/\wr=w) (fun i _=>0)
 case atStart=>exact⟨rfl,rfl⟩
 case round=>
  obtain⟨rfl,rfl⟩:=hrel
  go_wp2
  exact X75
def kofx (op:Int):Nat:=if op=0 then 117 else if op=1 then 118 else if op=2 then 119 else if op=3 then 120 else if op=4 then 121 else if op=5 then 122 else if op=6 then 123 else if op=7 then 124 else if op=8 then 125 else if op=9 then 126 else if op=10 then 127 else if op=11 then 128 else if op=12 then 129 else if op=13 then 130 else if op=14 then 131 else if op=15 then 132 else if op=16 then 133 else if op=17 then 134 else if op<=26 then 157 else if op<=44 then 158 else if op=45 then 135 else if op=46 then 136 else 137
def stepC (x:Int) (t:Nat):Value:=if t=0 then .func (.func (kofx (opn x))) #[] #[]else if t=1 then .int .i64 (opn x)else if t=2 then .int .i64 (qRd x)else if t=3 then .int .i64 (qR1 x)else if t=4 then .int .i64 (qR2 x)else .int .i32 (imm x)
def StepsIn (k n:Nat) (a:Int) (mem:Nat->Int) (w:World):Prop:=(∃cur fr,w.heap[k]?=some (.cells cur 96 fr))/\∀j,j<n->∀t,t<6->w.cell? ⟨k,j*6+t,none⟩=some (stepC (ld mem (a+4*j).toNat 4) t)
def SlotV (B:Nat) (X:List Nat) (mem:Nat->Int) (p:Int × Int) (v:Value) (w:World):Prop:=
 (p=(0,0)/\v=nilV)\/∃k n c:Nat,p.2=n/\0<n/\n<=8/\v=.slice (some ⟨k,0,none⟩) n c/\n<=c/\B<=k/\k∉X/\(0<=p.1/\p.1<=512/\p.1%4=0/\(p.1+4*((n:Int)-1))/64=p.1/64)/\StepsIn k n p.1 mem w
abbrev PMp (p:Nat) (l:List Blk) (w:World):Prop:=PM Tryz.prog 22 p l w
structure CAt (B sb:Nat) (X:List Nat) (m:M) (w:World):Prop where
 le:m.nslots<=64
 sx:m.nslots≠0->B<=sb/\sb∉X
 row:m.nslots≠0->∃g,RowIn sb m.nslots g w/\∀i,i<m.nslots->(g i).1=(m.slots i).1/\SlotV B (sb::(sb+1)::X) m.mem (m.slots i) (g i).2 w
 mp:m.nslots≠0->PMp (sb+1) m.blocks w/\sb+1∉X
theorem StepsIn.touch {k n:Nat}{a:Int}{mem:Nat->Int}{w w':World}(h:StepsIn k n a mem w)(hn:0<n){S:List Nat}(t:ref.Touch S w w')(hk:k∉S):StepsIn k n a mem w':=by
 have l:k<w.heap.size:=World.block_lt_of_cell? _ _ (h.2 0 hn 0 dC)
 refine⟨by rw[t.block k l hk];exact h.1,fun j hj u hu=> ?_⟩
 rw[t.cell (p:=⟨k,_,none⟩) l hk];exact h.2 j hj u hu
theorem SlotV.touch {B:Nat}{X:List Nat}{mem:Nat->Int}{p:Int × Int}{v:Value}{w w':World}(h:SlotV B X mem p v w){S:List Nat}(t:ref.Touch S w w')(hS:∀s,s∈S->s∈X):SlotV B X mem p v w':=by
 rcases h with h|⟨k,n,c,h1,h2,h3,h4,h5,h7,h8,h9,h10⟩
 ·exact Or.inl h
 ·exact Or.inr ⟨k,n,c,h1,h2,h3,h4,h5,h7,h8,h9,h10.touch h2 t (fun hk=>h8 (hS k hk))⟩
theorem SlotV.sub {B:Nat}{X Y:List Nat}{mem:Nat->Int}{p:Int × Int}{v:Value}{w:World}(h:SlotV B X mem p v w)(hY:∀k,k<w.heap.size->k∉X->k∉Y):SlotV B Y mem p v w:=by
 rcases h with h|⟨k,n,c,h1,h2,h3,h4,h5,h7,h8,h9,h10⟩
 ·exact Or.inl h
 ·exact Or.inr ⟨k,n,c,h1,h2,h3,h4,h5,h7,hY k (World.block_lt_of_cell? _ _ (h10.2 0 h2 0 dC)) h8,h9,h10⟩
theorem SlotV.slice {B:Nat}{X:List Nat}{mem:Nat->Int}{p:Int × Int}{v:Value}{w:World}(h:SlotV B X mem p v w):(∃o l c,v=.slice o l c)/\0<=p.1/\p.1<=512:=by
 rcases h with⟨h,h'⟩|⟨k,n,c,h1,h2,h3,h4,h5,h7,h8,h9,h10⟩
 ·rw[h];exact⟨⟨_,_,_,h'⟩,by decide,by decide⟩
 ·exact⟨⟨_,_,_,h4⟩,h9.1,h9.2.1⟩
theorem SlotV.page {B:Nat}{X:List Nat}{mem mem':Nat->Int}{p:Int × Int}{v:Value}{w:World}(h:SlotV B X mem p v w)(hm:∀i:Nat,(i:Int)/64=p.1/64->mem' i=mem i):SlotV B X mem' p v w:=by
 rcases h with h|⟨k,n,c,h1,h2,h3,h4,h5,h7,h8,⟨a0,a1,a4,a6⟩,h10⟩
 ·exact Or.inl h
 ·refine Or.inr ⟨k,n,c,h1,h2,h3,h4,h5,h7,h8,⟨a0,a1,a4,a6⟩,h10.1,fun j hj u hu=> ?_⟩
  rw[word_page mem mem' p.1 (p.1+4*j) oM oM oM hm]
  exact h10.2 j hj u hu
theorem CAt.sb_lt {B sb:Nat}{X:List Nat}{m:M}{w:World}(h:CAt B sb X m w)(hn:m.nslots≠0):sb<w.heap.size:=by
 obtain⟨g,h1,_⟩:=h.row hn
 exact World.block_lt_of_cell? _ _ (h1.pcs 0 oM)
theorem CAt.touch {B sb:Nat}{X:List Nat}{m:M}{w w':World}(h:CAt B sb X m w){S:List Nat}(t:ref.Touch S w w')(hS:∀s,s∈S->s∈X):CAt B sb X m w':=
 ⟨h.le,h.sx,fun hn=>by
  obtain⟨g,h1,h2⟩:=h.row hn
  refine⟨g,h1.other oM t (fun hk=>(h.sx hn).2 (hS _ hk)),fun i hi=>⟨(h2 i hi).1,(h2 i hi).2.touch t (fun s hs=>List.mem_cons_of_mem _ (List.mem_cons_of_mem _ (hS s hs)))⟩⟩,fun hn=>⟨(h.mp hn).1.keep (t.block _ (h.mp hn).1.lt (fun hk=>(h.mp hn).2 (hS _ hk))),(h.mp hn).2⟩⟩
theorem CAt.sub {B sb:Nat}{X Y:List Nat}{m:M}{w:World}(h:CAt B sb X m w)(hY:∀k,k<w.heap.size->k∉X->k∉Y):CAt B sb Y m w:=
 ⟨h.le,fun hn=>⟨(h.sx hn).1,hY _ (h.sb_lt hn) (h.sx hn).2⟩,fun hn=>by
  obtain⟨g,h1,h2⟩:=h.row hn
  exact⟨g,h1,fun i hi=>⟨(h2 i hi).1,(h2 i hi).2.sub (fun k hk hx=>by simp at hx ⊢;exact⟨hx.1,hx.2.1,hY k hk hx.2.2⟩)⟩⟩,fun hn=>⟨(h.mp hn).1,hY _ (h.mp hn).1.lt (h.mp hn).2⟩⟩
theorem CAt.congr {B sb:Nat}{X:List Nat}{m m':M}{w:World}(h:CAt B sb X m w)(e1:m'.nslots=m.nslots)(e2:m'.slots=m.slots)(e3:m'.mem=m.mem)(e4:m'.blocks=m.blocks:=by rfl):CAt B sb X m' w:=
 ⟨by rw[e1];exact h.le,by rw[e1];exact h.sx,by rw[e1,e2,e3];exact h.row,by rw[e1,e4];exact h.mp⟩
theorem CAt.none (B sb:Nat)(X:List Nat)(m:M)(w:World)(h:m.nslots=0):CAt B sb X m w:=⟨by omega,fun hn=>absurd h hn,fun hn=>absurd h hn,fun hn=>absurd h hn⟩
theorem CAt.forgot {B sb:Nat}{X:List Nat}{m:M}{w w':World}{g:Nat->Int × Value}(h:CAt B sb X m w)(hn:m.nslots≠0)(hg:∀i,i<m.nslots->(g i).1=(m.slots i).1/\SlotV B (sb::(sb+1)::X) m.mem (m.slots i) (g i).2 w)(fr tq:Int)
  (hr:RowIn sb m.nslots (fun i=>if hitp fr tq (g i).1 then(0,nilV)else g i) w') {S:List Nat} (t:ref.Touch S w w') (hS:∀s,s∈S->s∈sb::X) (m':M) (e1:m'.nslots=m.nslots) (e4:m'.blocks=m.blocks) (e2:∀i,m'.slots i=if hitp fr tq (m.slots i).1 then(0,0)else m.slots i) (e3:∀(a:Int) (i:Nat),hitp fr tq a=false->(i:Int)/64=a/64->m'.mem i=m.mem i):CAt B sb X m' w':=by
 refine⟨by rw[e1];exact h.le,by rw[e1];exact h.sx,fun _=>⟨_,by rw[e1];exact hr,fun i hi=> ?_⟩,fun _=>⟨by rw[e4];exact(h.mp hn).1.keep (t.block _ (h.mp hn).1.lt (fun hk=>by have:=hS _ hk;simp at this;exact(h.mp hn).2 this)),(h.mp hn).2⟩⟩
 rw[e1]at hi
 obtain⟨g1,g2⟩:=hg i hi
 rw[e2 i]
 cases hh:hitp fr tq (m.slots i).1 with
 |true=>simp only[g1,hh,if_true];exact⟨trivial,Or.inl ⟨rfl,rfl⟩⟩
 |false=>
  simp only[g1,hh,Bool.false_eq_true,if_false]
  exact⟨trivial,(g2.touch t (fun s hs=>by have:=hS s hs;simp at this ⊢;rcases this with e|e;exact Or.inl e;exact Or.inr (Or.inr e))).page (fun j hj=>e3 _ j hh hj)⟩
theorem results_c{fn:Func}{p:Tmp}{ty:TypeId}(h:fn.results=#[.cell p ty])(tmps:Array Value)(P:Program)(w:World)(g:Nat)(cs:List Value)(hp:tmps.getD p undef=.pointer (some ⟨g,0,none⟩))(d:TypeDesc)(hc:w.rangeAt g 0 cs)(hu:P.underlying ty=some d)(hd:d.isRow=true)(hi:(P.info? ty).map (·.size)=some cs.length):
  (results fn tmps).run P w=.ok (.agg cs.toArray) w:=by
 exact X71
theorem results_ct{fn:Func}{p u:Tmp}{ty:TypeId}(h:fn.results=#[.cell p ty,.tmp u])(tmps:Array Value)(P:Program)(w:World)(g:Nat)(cs:List Value)(hp:tmps.getD p undef=.pointer (some ⟨g,0,none⟩))(d:TypeDesc)(hc:w.rangeAt g 0 cs)(hu:P.underlying ty=some d)(hd:d.isRow=true)(hi:(P.info? ty).map (·.size)=some cs.length):
  (results fn tmps).run P w=.ok (.tuple #[.agg cs.toArray,tmps.getD u undef]) w:=by
 exact X71
theorem there_t{w w':World}{S:List Nat}{g n:Nat}(h:w.there g 0 n)(hn:0<n)(t:ref.Touch S w w')(hg:g∉S):w'.there g 0 n:=fun j hj=>by
 obtain⟨h1,h2⟩:=h j hj
 have lg:g<w.heap.size:=by
  obtain⟨v,hv⟩:=Option.isSome_iff_exists.1 h1
  exact World.block_lt_of_cell? _ _ hv
 exact⟨by rw[t.cell (p:=⟨g,0+j,none⟩) lg hg];exact h1,by rw[t.frozen (p:=⟨g,0+j,none⟩) lg hg];exact h2⟩
theorem info_st:(Tryz.prog.info? 96).map (·.size)=some 6:=by kernel_rfl
theorem info_bl:(Tryz.prog.info? 128).map (·.size)=some 2:=by kernel_rfl
theorem touch_newP:∀(vs:List Value) (o:Nat) (u w:World),ref.Touch [] u w->∀{g:Nat},u.heap.size<=g->ref.Touch [] u (w.setCells g o vs)
 |[],_,_,_,h,_,_=>h
 |v::r,o,u,w,h,g,hg=>touch_newP r (o+1) u (w.setCell ⟨g,o,none⟩ v) ⟨h.os,h.tape,h.output,by simpa [World.setCell]using h.size,fun k hk hn=>(Below.heap_setCell w ⟨g,o,none⟩ v k (by show k≠g;omega)).trans (h.block k hk hn)⟩ hg
theorem there_new(w:World)(cs:Array Value)(t:TypeId):(w.alloc (.cells cs t)).there w.heap.size 0 cs.size:=fun j hj=>by
 refine⟨?_,World.frozen?_alloc_at _ _ _ _ rfl⟩
 rw[World.cell?_alloc_at _ _ _ _ rfl,Nat.zero_add,Array.getElem?_eq_getElem hj];rfl
theorem StepsIn.apart {w:World}{k n base g:Nat}{a:Int}{mem:Nat->Int}{e size j:Nat}{v:Value}{xs:List Value}(h:StepsIn k n a mem w)(ho:w.ownsRow base e size v j xs)(ne:e≠96):k∉ref.sblk v:=fun hk=>by
 rcases ho.2 with⟨h1,_⟩|⟨g',cap',cur,hv,hb,hg,hn,hm,hs,ht⟩
 ·rw[h1]at hk;simp[ref.sblk]at hk
 ·rw[hv]at hk
  simp[ref.sblk]at hk
  subst hk
  obtain⟨cu,fr,hc⟩:=h.1
  rw[hg]at hc
  injection hc with hc
  injection hc with _ hc _
  exact ne hc
def IB (rd q1 q2 im:Int):Prop:=0<=rd/\rd<=31/\0<=q1/\q1<=31/\0<=q2/\q2<=31/\-2147483648<=im/\im<=2147483647
def layP (m:M) (nx:Int) (vX:Nat->Value) (i:Nat):Value:=
 if i<32 then .int .u32 (m.regs i)else if i=33 then .int .u32 m.pc else if i=34 then .int .u32 nx else if i=36 then .int .u32 m.brk else if i=39 then .int .i64 m.steps else vX i
structure PAt (B b mb:Nat) (m:M) (nx:Int) (vX:Nat->Value) (w:World):Prop where
 hb:B<=b
 hmb:B<=mb
 ne:b≠mb
 cells:∀i,i<44->i≠32->w.cell? ⟨b,i,none⟩=some (layP m nx vX i)
 data:w.cell? ⟨b,32,none⟩=some (.slice (some ⟨mb,0,none⟩) m.size m.size)
 free:∀i,w.frozen? ⟨b,i,none⟩=false
 bytes:∀i,i<m.size->w.cell? ⟨mb,i,none⟩=some (.int .u8 (m.mem i))
 freem:∀i,w.frozen? ⟨mb,i,none⟩=false
theorem PAt.there {B b mb:Nat}{m:M}{nx:Int}{vX:Nat->Value}{w:World}(h:PAt B b mb m nx vX w)(i:Nat)(hi:i<44):∃u,w.cell? ⟨b,i,none⟩=some u:=by
 by_cases e:i=32
 ·subst e;exact⟨_,h.data⟩
 ·exact⟨_,h.cells i hi e⟩
theorem PAt.upd {B b mb:Nat}{m m':M}{nx nx':Int}{vX vX':Nat->Value}{w:World}(h:PAt B b mb m nx vX w)(k:Nat)(hk:k<44)(kM:k≠32)(v:Value)
  (hs:m'.size=m.size) (hm:m'.mem=m.mem) (he:∀i,i<44->i≠32->layP m' nx' vX' i=if i=k then v else layP m nx vX i):
  PAt B b mb m' nx' vX' (w.setCell ⟨b,k,none⟩ v):=by
 refine⟨h.hb,h.hmb,h.ne,fun i hi hM=> ?_, ?_,fun i=> ?_,fun i hi=> ?_,fun i=> ?_⟩
 ·rw[he i hi hM]
  by_cases e:i=k
  ·subst e
   obtain⟨u,hu⟩:=h.there i hi
   rw[World.cell?_setCell_same _ _ _ hu,if_pos rfl]
  ·rw[World.cell?_setCell_other _ _ _ _ (by intro x;injection x with _ x;omega),if_neg e];exact h.cells i hi hM
 ·rw[World.cell?_setCell_other _ _ _ _ (by intro x;injection x with _ x;omega),hs];exact h.data
 ·rw[World.frozen?_setCell];exact h.free i
 ·rw[World.cell?_setCell_other _ _ _ _ (by have:=h.ne;intro x;injection x with x _;omega),hm];exact h.bytes i oM
 ·rw[World.frozen?_setCell];exact h.freem i
theorem PAt.other {B b mb:Nat}{S:List Nat}{m:M}{nx:Int}{vX:Nat->Value}{w w':World}(h:PAt B b mb m nx vX w)(t:ref.Touch S w w')(n1:b∉S)(n2:mb∉S)(hz:0<m.size):PAt B b mb m nx vX w':=by
 have l1:b<w.heap.size:=World.block_lt_of_cell? _ _ h.data
 have l2:mb<w.heap.size:=World.block_lt_of_cell? _ _ (h.bytes 0 hz)
 refine⟨h.hb,h.hmb,h.ne,fun i hi hM=> ?_, ?_,fun i=> ?_,fun i hi=> ?_,fun i=> ?_⟩
 ·rw[t.cell (p:=⟨b,i,none⟩) l1 n1];exact h.cells i hi hM
 ·rw[t.cell (p:=⟨b,32,none⟩) l1 n1];exact h.data
 ·rw[t.frozen (p:=⟨b,i,none⟩) l1 n1];exact h.free i
 ·rw[t.cell (p:=⟨mb,i,none⟩) l2 n2];exact h.bytes i hi
 ·rw[t.frozen (p:=⟨mb,i,none⟩) l2 n2];exact h.freem i
theorem ly1{α:Type}(l:List α)(i:Nat)(a:α):l.toArray.setIfInBounds i a=(l.set i a).toArray:=by simp
theorem ly2{α:Type}(x a:α)(l:List α):(x::l).set 0 a=a::l:=rfl
theorem ly3{α:Type}(x a:α)(l:List α)(n:Nat):(x::l).set (n+1) a=x::l.set n a:=rfl
def trapV (o:Int):List PanicEntry:=[{v:=.iface 117 (.agg #[.int .i64 o]),recovered:=false }]
theorem end_any(o:Int)(w:World):Calls Tryz.prog 76 #[.int .i64 o] w fun e w'=>e=.panicked (trapV o)/\w'=w:=by
 have hp:∀(v:Value) (w:World),(Instr.panic (.iface 117 v)).run Tryz.prog w=.halt (.panic (.iface 117 v)) w:=fun v w=>by simp[Instr.panic,goPanic,go_sem]
 go_enter Tryz.func76,Tryz.ntmps76
 go_wp2
 exact X73
theorem lies_any(a n z:Int)(a0:0<=a)(a1:a<=4294967295)(n0:0<=n)(n1:n<=4294967295)(w:World):
  Calls Tryz.prog 43 #[.int .u64 a,.int .u64 n,.int .u64 z] w fun e w'=>e=.returned (.bool (decide (a+n<=z)))/\w'=w:=by
 go_enter Tryz.func43,Tryz.ntmps43
 go_wp2
 go_ret
 exact⟨rfl,rfl⟩
theorem PAt.reg {B b mb:Nat}{m:M}{nx:Int}{vX:Nat->Value}{w:World}(h:PAt B b mb m nx vX w)(r:Nat)(hr:r<32):w.cell? ⟨b,r,none⟩=some (.int .u32 (m.regs r)):=by
 have:=h.cells r oM oM
 rwa [show layP m nx vX r=.int .u32 (m.regs r)from by simp[layP,hr]]at this
theorem at_reg{B b mb:Nat}{m:M}{nx:Int}{vX:Nat->Value}{w:World}(h:PAt B b mb m nx vX w)(r v:Int)(r0:1<=r)(r1:r<=31):PAt B b mb (setReg m r v) nx vX (w.setCell ⟨b,r.toNat,none⟩ (.int .u32 v)):=by
 rw[show setReg m r v={m with regs:=fun i=>if i=r.toNat then v else m.regs i } from if_neg oM]
 refine h.upd r.toNat oM oM _ rfl rfl (fun i hi hM=> ?_)
 by_cases e:i=r.toNat
 ·subst e
  simp[layP,show r.toNat<32 by omega]
 ·rw[if_neg e]
  by_cases k:i<32
  ·simp[layP,k,e]
  ·simp[layP,k]
theorem at_next{B b mb:Nat}{m:M}{nx:Int}{vX:Nat->Value}{w:World}(h:PAt B b mb m nx vX w)(v:Int):PAt B b mb m v vX (w.setCell ⟨b,34,none⟩ (.int .u32 v)):=
 h.upd (m':=m) (nx':=v) (vX':=vX) 34 dC dC _ rfl rfl (fun i hi hM=>Or.elim (Decidable.em (i=34)) (fun e=>by subst e;simp[layP]) (fun e=>by simp[layP,e]))
theorem at_pc{B b mb:Nat}{m:M}{nx:Int}{vX:Nat->Value}{w:World}(h:PAt B b mb m nx vX w)(v:Int):PAt B b mb {m with pc:=v } nx vX (w.setCell ⟨b,33,none⟩ (.int .u32 v)):=
 h.upd (m':={m with pc:=v }) (nx':=nx) (vX':=vX) 33 dC dC _ rfl rfl (fun i hi hM=>Or.elim (Decidable.em (i=33)) (fun e=>by subst e;simp[layP]) (fun e=>by simp[layP,e]))
theorem at_steps{B b mb:Nat}{m:M}{nx:Int}{vX:Nat->Value}{w:World}(h:PAt B b mb m nx vX w)(v:Int):PAt B b mb {m with steps:=v } nx vX (w.setCell ⟨b,39,none⟩ (.int .i64 v)):=
 h.upd (m':={m with steps:=v }) (nx':=nx) (vX':=vX) 39 dC dC _ rfl rfl (fun i hi hM=>Or.elim (Decidable.em (i=39)) (fun e=>by subst e;simp[layP]) (fun e=>by simp[layP,e]))
theorem set_any{B b mb:Nat}{m:M}{nx:Int}{vX:Nat->Value}{w:World}(h:PAt B b mb m nx vX w)(r v:Int)(r0:0<=r)(r1:r<=31):
  Calls Tryz.prog 144 #[.pointer (some ⟨b,0,none⟩),.int .i64 r,.int .u32 v] w fun e w'=>e=.returned (.tuple #[])/\PAt B b mb (setReg m r v) nx vX w'/\ref.Touch [b] w w':=by
 by_cases e:r=0
 ·subst e
  have HAT:Hid (PAt B b mb (setReg m 0 v) nx vX w):=by rw[show setReg m 0 v=m from if_pos rfl];exact h
  clear h
  go_enter Tryz.func144,Tryz.ntmps144
  go_wp2
  go_end0
  exact⟨rfl,HAT.out,ref.Touch.refl _ _⟩
 ·have HAT:Hid (PAt _ _ _ _ _ _ _):=at_reg h r v oM r1
  obtain⟨u0,c0⟩:=h.there r.toNat oM
  have f0:=h.free r.toNat
  have r2:r<32:=by omega
  have r3:1<=r:=by omega
  clear h
  go_enter Tryz.func144,Tryz.ntmps144
  exact X74
theorem jump_y{B b mb:Nat}{m:M}{nx:Int}{vX:Nat->Value}{w:World}(h:PAt B b mb m nx vX w)(tq:Int)(t0:0<=tq)(t1:tq<=4294967295)(ht:tq%4=0):
  Calls Tryz.prog 145 #[.pointer (some ⟨b,0,none⟩),.int .u32 tq] w fun e w'=>e=.returned (.tuple #[])/\PAt B b mb m tq vX w'/\ref.Touch [b] w w':=by
 have HAT:Hid (PAt B b mb m tq vX _):=at_next h tq
 obtain⟨u0,c0⟩:=h.there 34 dC
 have f0:=h.free 34
 clear h
 go_enter Tryz.func145,Tryz.ntmps145
 exact X74
theorem jump_n(b:Nat)(tq:Int)(t0:0<=tq)(t1:tq<=4294967295)(ht:¬tq%4=0)(w:World):
  Calls Tryz.prog 145 #[.pointer (some ⟨b,0,none⟩),.int .u32 tq] w fun e w'=>e=.panicked (trapV 3)/\w'=w:=by
 go_enter Tryz.func145,Tryz.ntmps145
 go_wp2_with (first|(go_at_call 76;refine(end_any 3 _).mono ?_;rintro e w' ⟨rfl,hw'⟩;subst w'))
 exact X73
theorem guard1_fa{B b mb:Nat}{m:M}{nx:Int}{vX:Nat->Value}{w:World}(h:PAt B b mb m nx vX w)(a al fa:Int)(a0:0<=a)(a1:a<=4294967295)(hz:m.size<=512)(hl:lies m a 1=false):Calls Tryz.prog 74 #[.pointer (some ⟨b,0,none⟩),.int .u32 a,.int .u32 1,.int .i64 al,.int .i64 fa] w fun e w'=>e=.panicked (trapV fa)/\w'=w:=by
 have hd:=h.data
 have hl2:decide (a+1<=(m.size:Int))=false:=hl
 clear h
 go_enter Tryz.func74,Tryz.ntmps74
 go_wp2_with (first|(go_at_call 43;refine(lies_any a 1 (m.size:Int) oM oM oM oM _).mono ?_;rintro e w' ⟨rfl,hw'⟩;subst w')|(go_at_call 76;refine(end_any fa _).mono ?_;rintro e w' ⟨rfl,hw'⟩;subst w'))
 exact X73
theorem guard1_ok{B b mb:Nat}{m:M}{nx:Int}{vX:Nat->Value}{w:World}(h:PAt B b mb m nx vX w)(a al fa:Int)(a0:0<=a)(a1:a<=4294967295)(hz:m.size<=512)(hl:lies m a 1=true):Calls Tryz.prog 74 #[.pointer (some ⟨b,0,none⟩),.int .u32 a,.int .u32 1,.int .i64 al,.int .i64 fa] w fun e w'=>e=.returned (.tuple #[])/\w'=w:=by
 have hd:=h.data
 have hl2:decide (a+1<=(m.size:Int))=true:=hl
 clear h
 go_enter Tryz.func74,Tryz.ntmps74
 go_wp2_with (first|(go_at_call 43;refine(lies_any a 1 (m.size:Int) oM oM oM oM _).mono ?_;rintro e w' ⟨rfl,hw'⟩;subst w')|(go_at_call 76;refine(end_any fa _).mono ?_;rintro e w' ⟨rfl,hw'⟩;subst w'))
 exact X75
theorem guard2_al{B b mb:Nat}{m:M}{nx:Int}{vX:Nat->Value}{w:World}(h:PAt B b mb m nx vX w)(a al fa:Int)(a0:0<=a)(a1:a<=4294967295)(hz:m.size<=512)(ha:¬a%2=0):Calls Tryz.prog 74 #[.pointer (some ⟨b,0,none⟩),.int .u32 a,.int .u32 2,.int .i64 al,.int .i64 fa] w fun e w'=>e=.panicked (trapV al)/\w'=w:=by
 clear h
 exact X72
theorem guard2_fa{B b mb:Nat}{m:M}{nx:Int}{vX:Nat->Value}{w:World}(h:PAt B b mb m nx vX w)(a al fa:Int)(a0:0<=a)(a1:a<=4294967295)(hz:m.size<=512)(ha:a%2=0)(hl:lies m a 2=false):Calls Tryz.prog 74 #[.pointer (some ⟨b,0,none⟩),.int .u32 a,.int .u32 2,.int .i64 al,.int .i64 fa] w fun e w'=>e=.panicked (trapV fa)/\w'=w:=by
 have hd:=h.data
 have hl2:decide (a+2<=(m.size:Int))=false:=hl
 clear h
 go_enter Tryz.func74,Tryz.ntmps74
 go_wp2_with (first|(go_at_call 43;refine(lies_any a 2 (m.size:Int) oM oM oM oM _).mono ?_;rintro e w' ⟨rfl,hw'⟩;subst w')|(go_at_call 76;refine(end_any fa _).mono ?_;rintro e w' ⟨rfl,hw'⟩;subst w'))
 exact X73
theorem guard2_ok{B b mb:Nat}{m:M}{nx:Int}{vX:Nat->Value}{w:World}(h:PAt B b mb m nx vX w)(a al fa:Int)(a0:0<=a)(a1:a<=4294967295)(hz:m.size<=512)(ha:a%2=0)(hl:lies m a 2=true):Calls Tryz.prog 74 #[.pointer (some ⟨b,0,none⟩),.int .u32 a,.int .u32 2,.int .i64 al,.int .i64 fa] w fun e w'=>e=.returned (.tuple #[])/\w'=w:=by
 have hd:=h.data
 have hl2:decide (a+2<=(m.size:Int))=true:=hl
 clear h
 go_enter Tryz.func74,Tryz.ntmps74
 go_wp2_with (first|(go_at_call 43;refine(lies_any a 2 (m.size:Int) oM oM oM oM _).mono ?_;rintro e w' ⟨rfl,hw'⟩;subst w')|(go_at_call 76;refine(end_any fa _).mono ?_;rintro e w' ⟨rfl,hw'⟩;subst w'))
 exact X75
theorem guard4_al{B b mb:Nat}{m:M}{nx:Int}{vX:Nat->Value}{w:World}(h:PAt B b mb m nx vX w)(a al fa:Int)(a0:0<=a)(a1:a<=4294967295)(hz:m.size<=512)(ha:¬a%4=0):Calls Tryz.prog 74 #[.pointer (some ⟨b,0,none⟩),.int .u32 a,.int .u32 4,.int .i64 al,.int .i64 fa] w fun e w'=>e=.panicked (trapV al)/\w'=w:=by
 clear h
 exact X72
theorem guard4_fa{B b mb:Nat}{m:M}{nx:Int}{vX:Nat->Value}{w:World}(h:PAt B b mb m nx vX w)(a al fa:Int)(a0:0<=a)(a1:a<=4294967295)(hz:m.size<=512)(ha:a%4=0)(hl:lies m a 4=false):Calls Tryz.prog 74 #[.pointer (some ⟨b,0,none⟩),.int .u32 a,.int .u32 4,.int .i64 al,.int .i64 fa] w fun e w'=>e=.panicked (trapV fa)/\w'=w:=by
 have hd:=h.data
 have hl2:decide (a+4<=(m.size:Int))=false:=hl
 clear h
 go_enter Tryz.func74,Tryz.ntmps74
 go_wp2_with (first|(go_at_call 43;refine(lies_any a 4 (m.size:Int) oM oM oM oM _).mono ?_;rintro e w' ⟨rfl,hw'⟩;subst w')|(go_at_call 76;refine(end_any fa _).mono ?_;rintro e w' ⟨rfl,hw'⟩;subst w'))
 exact X73
theorem guard4_ok{B b mb:Nat}{m:M}{nx:Int}{vX:Nat->Value}{w:World}(h:PAt B b mb m nx vX w)(a al fa:Int)(a0:0<=a)(a1:a<=4294967295)(hz:m.size<=512)(ha:a%4=0)(hl:lies m a 4=true):Calls Tryz.prog 74 #[.pointer (some ⟨b,0,none⟩),.int .u32 a,.int .u32 4,.int .i64 al,.int .i64 fa] w fun e w'=>e=.returned (.tuple #[])/\w'=w:=by
 have hd:=h.data
 have hl2:decide (a+4<=(m.size:Int))=true:=hl
 clear h
 go_enter Tryz.func74,Tryz.ntmps74
 go_wp2_with (first|(go_at_call 43;refine(lies_any a 4 (m.size:Int) oM oM oM oM _).mono ?_;rintro e w' ⟨rfl,hw'⟩;subst w')|(go_at_call 76;refine(end_any fa _).mono ?_;rintro e w' ⟨rfl,hw'⟩;subst w'))
 exact X75
end prog
namespace prog
open ChangeShapes WideShapes ChangeAt RowKit nums dnums mach
theorem catch_trap(p:Nat)(x:Value)(o:Int)(w:World)(hc:w.cell? ⟨p,0,none⟩=some x)(hz:w.frozen? ⟨p,0,none⟩=false):
  CallsD Tryz.prog 73 #[.pointer (some ⟨p,0,none⟩)] (.panicking [{v:=Value.iface 117 (Value.agg #[Value.int IntKind.i64 o]),recovered:=false }]) w fun e u' w'=>
   e=.returned (.tuple #[])/\u'=.panicking [{v:=Value.iface 117 (Value.agg #[Value.int IntKind.i64 o]),recovered:=true }]/\w'=(w.alloc (.cells #[.int .i64 o] 117)).setCell ⟨p,0,none⟩ (.int .i64 o):=by
 have hta:∀(v:Value) (w:World),(Instr.typeAssert (.iface 117 v) 20 117 true).run Tryz.prog w=.ok (.tuple #[v,.bool true]) w:=fun v w=>by kernel_rfl
 have lp:p<w.heap.size:=World.block_lt_of_cell? _ _ hc
 refine callsD_of_wpS Tryz.func73 rfl fun c₀ cs hu=> ?_
 apply wpS_seq
 apply wpS_region
 simp[wpOpsS,go_sem,recoverD,hu,Tryz.ntmps73,Exit.thenS]
 refine wpS_of_wp ?_
 rw[show(#[Value.pointer (some ⟨p,0,none⟩)]++(Array.replicate 11 undef).setIfInBounds 3 (Value.iface 117 (Value.agg #[Value.int IntKind.i64 o])):Array Value)=#[Value.pointer (some ⟨p,0,none⟩),undef,undef,undef,Value.iface 117 (Value.agg #[Value.int IntKind.i64 o]),undef,undef,undef,undef,undef,undef,undef]from rfl]
 go_wp2
 cases c₀
 simp_all [bodyPostS,results,Tryz.results73,go_sem]
theorem catch_idle(p:Nat)(w:World):
  CallsD Tryz.prog 73 #[.pointer (some ⟨p,0,none⟩)] .returning w fun e u' w'=>e=.returned (.tuple #[])/\u'=.returning/\w'=w:=by
 refine callsD_of_wpS Tryz.func73 rfl fun c₀ cs hu=> ?_
 apply wpS_seq
 apply wpS_region
 simp[wpOpsS,go_sem,recoverD,hu,Tryz.ntmps73,Exit.thenS]
 refine wpS_of_wp ?_
 rw[show(#[Value.pointer (some ⟨p,0,none⟩)]++(Array.replicate 11 undef).setIfInBounds 3 Value.nilIface:Array Value)=#[Value.pointer (some ⟨p,0,none⟩),undef,undef,undef,Value.nilIface,undef,undef,undef,undef,undef,undef,undef]from rfl]
 go_wp2
 cases c₀
 simp_all [bodyPostS,results,Tryz.results73]
end prog
namespace prog
open ChangeShapes WideShapes ChangeAt RowKit nums dnums mach
theorem ao_0(w:World):Calls Tryz.prog 103 #[.int .i64 0] w fun e w'=>e=.returned (.func (.func 117) #[] #[])/\w'=w:=by
 exact X70
theorem ao_1(w:World):Calls Tryz.prog 103 #[.int .i64 1] w fun e w'=>e=.returned (.func (.func 118) #[] #[])/\w'=w:=by
 exact X70
theorem ao_2(w:World):Calls Tryz.prog 103 #[.int .i64 2] w fun e w'=>e=.returned (.func (.func 119) #[] #[])/\w'=w:=by
 exact X70
theorem ao_3(w:World):Calls Tryz.prog 103 #[.int .i64 3] w fun e w'=>e=.returned (.func (.func 120) #[] #[])/\w'=w:=by
 exact X70
theorem ao_4(w:World):Calls Tryz.prog 103 #[.int .i64 4] w fun e w'=>e=.returned (.func (.func 121) #[] #[])/\w'=w:=by
 exact X70
theorem ao_5(w:World):Calls Tryz.prog 103 #[.int .i64 5] w fun e w'=>e=.returned (.func (.func 122) #[] #[])/\w'=w:=by
 exact X70
theorem ao_6(w:World):Calls Tryz.prog 103 #[.int .i64 6] w fun e w'=>e=.returned (.func (.func 123) #[] #[])/\w'=w:=by
 exact X70
theorem ao_7(w:World):Calls Tryz.prog 103 #[.int .i64 7] w fun e w'=>e=.returned (.func (.func 124) #[] #[])/\w'=w:=by
 exact X70
theorem ao_8(w:World):Calls Tryz.prog 103 #[.int .i64 8] w fun e w'=>e=.returned (.func (.func 125) #[] #[])/\w'=w:=by
 exact X70
theorem ao_9(w:World):Calls Tryz.prog 103 #[.int .i64 9] w fun e w'=>e=.returned (.func (.func 126) #[] #[])/\w'=w:=by
 exact X70
theorem ao_10(w:World):Calls Tryz.prog 103 #[.int .i64 10] w fun e w'=>e=.returned (.func (.func 127) #[] #[])/\w'=w:=by
 exact X70
theorem ao_11(w:World):Calls Tryz.prog 103 #[.int .i64 11] w fun e w'=>e=.returned (.func (.func 128) #[] #[])/\w'=w:=by
 exact X70
theorem ao_12(w:World):Calls Tryz.prog 103 #[.int .i64 12] w fun e w'=>e=.returned (.func (.func 129) #[] #[])/\w'=w:=by
 exact X70
theorem ao_13(w:World):Calls Tryz.prog 103 #[.int .i64 13] w fun e w'=>e=.returned (.func (.func 130) #[] #[])/\w'=w:=by
 exact X70
theorem ao_14(w:World):Calls Tryz.prog 103 #[.int .i64 14] w fun e w'=>e=.returned (.func (.func 131) #[] #[])/\w'=w:=by
 exact X70
theorem ao_15(w:World):Calls Tryz.prog 103 #[.int .i64 15] w fun e w'=>e=.returned (.func (.func 132) #[] #[])/\w'=w:=by
 exact X70
theorem ao_16(w:World):Calls Tryz.prog 103 #[.int .i64 16] w fun e w'=>e=.returned (.func (.func 133) #[] #[])/\w'=w:=by
 exact X70
theorem ao_17(w:World):Calls Tryz.prog 103 #[.int .i64 17] w fun e w'=>e=.returned (.func (.func 134) #[] #[])/\w'=w:=by
 exact X70
theorem ao_45(w:World):Calls Tryz.prog 103 #[.int .i64 45] w fun e w'=>e=.returned (.func (.func 135) #[] #[])/\w'=w:=by
 exact X70
theorem ao_46(w:World):Calls Tryz.prog 103 #[.int .i64 46] w fun e w'=>e=.returned (.func (.func 136) #[] #[])/\w'=w:=by
 exact X70
theorem ao_47(w:World):Calls Tryz.prog 103 #[.int .i64 47] w fun e w'=>e=.returned (.func (.func 137) #[] #[])/\w'=w:=by
 exact X70
theorem ao_ri(op:Int)(h0:18<=op)(h1:op<=26)(w:World):Calls Tryz.prog 103 #[.int .i64 op] w fun e w'=>e=.returned (.func (.func 157) #[] #[])/\w'=w:=by
 exact X70
theorem ao_rr(op:Int)(h0:27<=op)(h1:op<=44)(w:World):Calls Tryz.prog 103 #[.int .i64 op] w fun e w'=>e=.returned (.func (.func 158) #[] #[])/\w'=w:=by
 exact X70
end prog
end Go.Proofs.YtjikimpejlmdiaaGreatDoor

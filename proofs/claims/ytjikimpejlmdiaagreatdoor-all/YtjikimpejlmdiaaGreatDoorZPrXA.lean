import Derived.Test.YtjikimpejlmdiaaGreatDoorZGg
import Derived.Laws.IdiomRangeMap
set_option maxHeartbeats 4000000
set_option linter.unusedVariables false
set_option linter.unusedSimpArgs false
set_option maxRecDepth 10000
namespace Go.Proofs.YtjikimpejlmdiaaGreatDoor
theorem XM0{p:Prop}(h:p:=by
 go_end0
 refine⟨rfl, ?_,T2.out⟩
 rw[HC.out]
 simpa using P2.out):p:=h
theorem XM1{p:Prop}(h:p:=by repeat' (first|with_reducible exact ref.Touch.refl _ _|(with_reducible apply touch_cellQ _ sP)|with_reducible apply ref.Touch.drew|with_reducible apply ref.Touch.alloc|assumption)):p:=h
namespace prog
open ChangeShapes WideShapes ChangeAt RowKit nums dnums mach
theorem touch_cellQ{u v:World}(h:ref.Touch [] u v){a:Addr}(ha:u.heap.size<=a.block)(x:Value):ref.Touch [] u (v.setCell a x):=
 ⟨h.os,h.tape,h.output,by simpa [World.setCell]using h.size,fun k hk hn=>(Below.heap_setCell v a x k oM).trans (h.block k hk hn)⟩
theorem touch_gr{w w':World}{p:Nat}(h:w.grownBy w' (some p)):ref.Touch [p] w w':=
 ⟨h.os,h.tape,h.output,h.size,fun k hk hn=>h.block k hk (fun e=>hn (by injection e with e;simp[e]))⟩
theorem touch_lateQ{u v w:World}{r:Nat}(h:ref.Touch [] u v)(k:v.grownBy w (some r))(hr:u.heap.size<=r):ref.Touch [] u w:=
 ⟨k.os.trans h.os,k.tape.trans h.tape,k.output.trans h.output,Nat.le_trans h.size k.size,fun i hi hn=>(k.block i (Nat.lt_of_lt_of_le hi h.size) (fun e=>by injection e with e;omega)).trans (h.block i hi hn)⟩
theorem grown_t{w w':World}(t:ref.Touch [] w w'):w.grownBy w' none:=⟨t.os,t.tape,t.output,t.size,fun k hk _=>t.block k hk sP⟩
theorem zero_abl(w:World):(zeroValue 44).run Tryz.prog w=.ok (blkV ⟨0,0,0,0⟩) w:=by kernel_rfl
theorem at0_bd{l:List Blk}(h:∀x∈l,(0<=x.built/\x.built<=100000)/\0<=x.entered/\x.entered<=100000)(pc:Int):(0<=(at0 l pc).built/\(at0 l pc).built<=100000)/\0<=(at0 l pc).entered/\(at0 l pc).entered<=100000:=by
 unfold at0
 cases e:l.find? fun k=>k.pc==pc with
 |none=>simp
 |some x=>exact h x (List.mem_of_find?_eq_some e)
theorem at0_pc{l:List Blk}{pc:Int}(h:hasB l pc=true):(at0 l pc).pc=pc:=by
 unfold at0
 cases e:l.find? fun k=>k.pc==pc with
 |none=>
  obtain⟨x,hx,hp⟩:=List.any_eq_true.1 h
  exact absurd hp (List.find?_eq_none.1 e x hx)
 |some x=>simpa using List.find?_some e
def LB (l:List Blk):Prop:=l.Pairwise (fun a b=>a.pc<b.pc)/\l.length<=100000/\∀x∈l,(0<=x.built/\x.built<=100000)/\0<=x.entered/\x.entered<=100000
theorem cntB_any(p:Nat)(l:List Blk)(w:World)(h:PMp p l w)(hl:LB l)(a n c:Nat)(o:Option Addr)(ha:a<=512):
  Calls Tryz.prog 139 #[.map (some p),.agg #[.int .u32 (a:Int),.slice o n c]] w fun e w'=>e=.returned (.tuple #[])/\PMp p (mach.count l a n 1 0) w'/\ref.Touch [p] w w':=by
 obtain⟨hs,hn,hb⟩:=hl
 have hce:=(count_eq (l:=l) a n 1 0 hs).1
 obtain⟨⟨b0,b1⟩,b2,b3⟩:=at0_bd hb a
 obtain⟨q,hq⟩:∃q,at0 l a=q:=⟨_,rfl⟩
 rw[hq]at hce b0 b1 b2 b3
 have HP:Hid (∀w',ref.Touch [] w w'->PMp p l w'):=fun w' t=>h.keep (t.block _ h.lt sP)
 have HS:Hid (l.Pairwise (fun a b=>a.pc<b.pc)):=hs
 have HC:Hid (_):=hce
 clear h hs hb hce
 go_enter Tryz.func139,Tryz.ntmps139
 go_wp2_with (first|(at_lookup;refine wpl_look _ rfl _ _ 87 rfl 22 44 Tryz.underlying22 Tryz.underlying87 (zero_abl _) p l rfl (HP.out _ XM1) (a:Int) oM oM rfl ?_;rw[hq];dsimp only[blkV,blkA])|(at_mapUpdate;refine wpl_store _ rfl _ _ _ 87 rfl 22 44 Tryz.underlying22 Tryz.underlying87 p l rfl (HP.out _ XM1) HS.out hn ⟨(a:Int),(n:Int),q.built+1,q.entered⟩ (by show(0:Int)<=(a:Int);omega) (by show(a:Int)<=4294967295;omega) rfl rF ?_;intro w2 hpm2 hgr2;have T2:Hid (ref.Touch [p] w w2):=(ref.Touch.mono (S:=[]) XM1 sP).trans (touch_gr hgr2);have P2:Hid (PMp p (insB l ⟨(a:Int),(n:Int),q.built+1,q.entered⟩) w2):=hpm2;clear hpm2 hgr2))
 exact XM0
theorem cntE_any(p:Nat)(l:List Blk)(w:World)(h:PMp p l w)(hl:LB l)(a n c:Nat)(o:Option Addr)(ha:a<=512)(hk:hasB l a=true):
  Calls Tryz.prog 109 #[.map (some p),.agg #[.int .u32 (a:Int),.slice o n c]] w fun e w'=>e=.returned (.tuple #[])/\PMp p (mach.count l a n 0 1) w'/\ref.Touch [p] w w':=by
 obtain⟨hs,hn,hb⟩:=hl
 have hce:=(count_eq (l:=l) a n 0 1 hs).1
 obtain⟨⟨b0,b1⟩,b2,b3⟩:=at0_bd hb a
 have hpc:=at0_pc hk
 rw[hk]at hce
 obtain⟨q,hq⟩:∃q,at0 l a=q:=⟨_,rfl⟩
 rw[hq]at hce b0 b1 b2 b3 hpc
 obtain⟨qp,ql,qb,qe⟩:=q
 dsimp only at hpc b0 b1 b2 b3 hce
 subst hpc
 have HP:Hid (∀w',ref.Touch [] w w'->PMp p l w'):=fun w' t=>h.keep (t.block _ h.lt sP)
 have HS:Hid (l.Pairwise (fun a b=>a.pc<b.pc)):=hs
 have HC:Hid (_):=hce
 clear h hs hb hce hk
 go_enter Tryz.func109,Tryz.ntmps109
 go_wp2_with (first|(at_lookup;refine wpl_look _ rfl _ _ 87 rfl 22 44 Tryz.underlying22 Tryz.underlying87 (zero_abl _) p l rfl (HP.out _ XM1) (a:Int) oM oM rfl ?_;rw[hq];dsimp only[blkV,blkA])|(at_mapUpdate;refine wpl_store _ rfl _ _ _ 87 rfl 22 44 Tryz.underlying22 Tryz.underlying87 p l rfl (HP.out _ XM1) HS.out hn ⟨(a:Int),ql,qb,qe+1⟩ (by show(0:Int)<=(a:Int);omega) (by show(a:Int)<=4294967295;omega) rfl rF ?_;intro w2 hpm2 hgr2;have T2:Hid (ref.Touch [p] w w2):=(ref.Touch.mono (S:=[]) XM1 sP).trans (touch_gr hgr2);have P2:Hid (PMp p (insB l ⟨(a:Int),ql,qb,qe+1⟩) w2):=hpm2;clear hpm2 hgr2))
 exact XM0
theorem built_nil(w:World):Calls Tryz.prog 49 #[.map none] w fun e w'=>e=.returned (.int .i64 0)/\ref.Touch [] w w':=by
 have hrg:=run_range_nilMap (P:=Tryz.prog) w 87 22 44 Tryz.underlying87
 have hnx:∀ty,(Instr.next (.pointer (some ⟨w.heap.size,0,none⟩)) false ty).run Tryz.prog (w.alloc (.mapIter none 0 #[] 0))=_:=fun ty=>run_next_nilMap w ty 0 0 #[]
 go_enter Tryz.func49,Tryz.ntmps49
 go_wp2
 refine wp_loop_rounds 1 ?_
 rw[rounds_succ]
 go_wp2
 go_ret
 exact⟨rfl,(ref.Touch.refl _ _).alloc _⟩
theorem built_pm(p:Nat)(l:List Blk)(w:World)(h:PMp p l w)(hl:LB l)(hb:bsum l<=100000):
  Calls Tryz.prog 49 #[.map (some p)] w fun e w'=>e=.returned (.int .i64 (bsum l))/\ref.Touch [] w w':=by
 have HS:Hid (l.Pairwise (fun a b=>a.pc<b.pc)):=hl.1
 have HB:Hid (∀f,0<=lsum l f/\lsum l f<=bsum l):=fun f=>lsum_bd (fun x hx=>(hl.2.2 x hx).1.1)
 have HX:Hid (∀x∈l,0<=x.built/\x.built<=100000):=fun x hx=>(hl.2.2 x hx).1
 clear hl
 go_enter Tryz.func49,Tryz.ntmps49
 go_wp2_with (first|(at_range;refine wpl_range _ rfl _ 87 rfl 22 44 Tryz.underlying22 Tryz.underlying87 p l rfl h ?_;intro w0 hrg0 hg0 hs0)|go_in)
 go_frame
 go_loopw [3] (fun i wr=>∃(left:Lit->Bool) (cnt:Nat) (s:Int),i=.int .i64 s/\wr.ranges Tryz.prog 22 blkR p w.heap.size l.length (blkL l) left cnt/\s+lsum l left=bsum l/\ref.Touch [] w wr) (fun _ wr=>wr.rangeLeft p w.heap.size)
 case atStart=>exact⟨_,_,0,rfl,hrg0,by rw[lsum_all];omega,⟨hg0.os,hg0.tape,hg0.output,hg0.size,fun k hk _=>hg0.block k hk sP⟩⟩
 case round=>
  obtain⟨left,cnt,s,rfl,hrg,hsum,ht⟩:=hrel
  have HT:Hid (ref.Touch [] w wr):=ht
  have HR:Hid (wr.ranges Tryz.prog 22 blkR p w.heap.size l.length (blkL l) left cnt):=hrg
  clear ht
  go_wp2_with (first|(at_next;refine wpl_next _ rfl _ rfl 22 Tryz.underlying22 p w.heap.size l _ _ rfl hrg ?_ ?_)|go_in)
  ·intro _ hl0
   have hs1:s=bsum l:=by rw[lsum_none hl0]at hsum;omega
   subst hs1
   clear hrg hl0
   go_wp2
   go_ret
   exact⟨rfl,HT.out⟩
  ·intro c w1 cnt1 hc hlk hrg1 hlt hg1 hs1 hen
   have hst:=lsum_step HS.out hc hlk
   have q1:=HB.out left
   have q2:=HB.out (fun z=>left z&& !z.sameKey (.int .u32 c.pc))
   have q3:=HX.out c hc
   obtain⟨u,hu⟩:∃u,u=lsum l (fun z=>left z&& !z.sameKey (.int .u32 c.pc)):=⟨_,rfl⟩
   rw[<-hu]at hst q2
   have s0:0<=s+c.built:=by omega
   have s1:s+c.built<=100000:=by omega
   have HR1:Hid (w1.ranges Tryz.prog 22 blkR p w.heap.size l.length (blkL l) (fun z=>left z&& !z.sameKey (.int .u32 c.pc)) cnt1):=hrg1
   have HT1:Hid (ref.Touch [] w w1):=touch_lateQ HT.out hg1 (Nat.le_refl _)
   have hU:s+c.built+lsum l (fun z=>left z&& !z.sameKey (.int .u32 c.pc))=bsum l:=by rw[<-hu];omega
   have HU:Hid (s+c.built+lsum l (fun z=>left z&& !z.sameKey (.int .u32 c.pc))=bsum l):=hU
   have HLT:Hid (cnt1<cnt):=hlt
   dsimp only[blkV,blkA]at hen
   clear hrg hrg1 hst q1 q2 hu hsum hlk hlt hg1 hU
   go_wp2
   go_roundw
   case rel=>exact⟨_,cnt1,s+c.built,by go_num,HR1.out.kept (grown_t (w:=w1) XM1) sP sP,HU.out,HT1.out.trans XM1⟩
   case measure=>rw[(HR1.out.kept (grown_t (w:=w1) XM1) sP sP).left_eq,HR.out.left_eq];exact HLT.out
def BuS (m:M):Prop:=(m.nslots=0/\m.built=0)\/(m.nslots≠0/\m.built=bsum m.blocks/\LB m.blocks/\m.built<=100000)
def mapV (n sb:Nat):Value:=.map (if n=0 then none else some (sb+1))
theorem built_any(m:M)(sb:Nat)(w:World)(h:m.nslots≠0->PMp (sb+1) m.blocks w)(hb:BuS m):Calls Tryz.prog 49 #[mapV m.nslots sb] w fun e w'=>e=.returned (.int .i64 m.built)/\ref.Touch [] w w':=by
 unfold mapV
 rcases hb with⟨h0,h1⟩|⟨h0,h1,h2,h3⟩
 ·rw[if_pos h0,h1];exact built_nil w
 ·rw[if_neg h0,h1];exact built_pm _ _ w (h h0) h2 oM
end prog
end Go.Proofs.YtjikimpejlmdiaaGreatDoor

import Derived.Test.YtjikimpejlmdiaaGreatDoorZGg
import Derived.Test.YtjikimpejlmdiaaGreatDoorZGb
import Derived.Laws.IdiomCopy
import Derived.BigRegion
import Derived.Test.YtjikimpejlmdiaaGreatDoorZHh
import Derived.Deep.RegionHeld3
import Derived.Deep.DrawnRows
import Derived.BigQuiet
import Derived.Test.YtjikimpejlmdiaaGreatDoorZHb
set_option maxHeartbeats 4000000
set_option linter.unusedVariables false
set_option linter.unusedSimpArgs false
set_option maxRecDepth 10000
namespace Go.Proofs.YtjikimpejlmdiaaGreatDoor
theorem Xp0{p:Prop}(h:p:=by
 have HT:Hid (ref.Touch [] w w1):=by
  rw[hw1]
  exact touch_new _ _ _ _ ((ref.Touch.refl _ _).alloc _).drew (Nat.le_refl _)
 clear h hm hin hou hw1 hW
 go_enter Tryz.func102,Tryz.ntmps102
 go_wp2_with fail
 go_region
 go_wp2_with fail
 go_ret
 exact⟨by rw[<-HV.out];rfl,HT.out⟩):p:=h
theorem Xp1{p:Prop}(h:p:=by
 have e:∀j,w'.cell? ⟨w.heap.size,j,none⟩=(w.alloc (.cells #[.int .i64 op,.int .i64 rd,.int .i64 q1,.int .i64 q2,.int .i32 im] 61)).cell? ⟨w.heap.size,j,none⟩:=fun j=>t.cell (p:=⟨w.heap.size,j,none⟩) sP (by simp;omega)
 exact⟨(e 0).trans (World.cell?_alloc_at _ _ _ _ rfl),(e 1).trans (World.cell?_alloc_at _ _ _ _ rfl),(e 2).trans (World.cell?_alloc_at _ _ _ _ rfl),(e 3).trans (World.cell?_alloc_at _ _ _ _ rfl),(e 4).trans (World.cell?_alloc_at _ _ _ _ rfl),hp⟩):p:=h
theorem Xp2{p:Prop}(h:p:=by
 intro j hj
 rw[hw1,World.cell?_setCells_out _ _ _ _ _ (fun _ _=>Or.inr (by simpa using hj))]
 show(w.alloc (.cells #[.int .u8 0,.int .u8 0,.int .u8 0,.int .u8 0] 147)).cell? ⟨w.heap.size,j,none⟩=_
 exact World.cell?_alloc_at _ _ _ _ rfl):p:=h
theorem Xp3{p:Prop}(h:p:=by
 have t9:ref.Touch [b] (bx w op rd q1 q2 im) w9:=ref.Touch.trans (ref.Touch.trans tj (ref.Touch.mono (S:=[]) tch sP)) hto
 have p9:w9.cell? ⟨b,33,none⟩=some (.int .u32 m.pc):=set_pc hat
 have HT:Hid (ref.Touch [b] (bx w op rd q1 q2 im) w9):=t9
 clear hat hto
 refine hK.out _ _ (HSk.out _ t9 p9) (fun hHeld=> ?_)
 clear hK K
 try go_frame
 refine wpAnyH_done kR ?_ _
 go_wp2_with fail
 go_end0
 exact⟨rfl,HA.out,(((ref.Touch.refl _ _).alloc _).trans HT.out).mono sP⟩):p:=h
theorem Xp4{p:Prop}(h:p:=by
 go_end0
 exact⟨rfl,HA.out,(((ref.Touch.refl _ _).alloc _).trans HT.out).mono sP⟩):p:=h
theorem Xp5{p:Prop}(h:p:=by
 refine rdy 9 (fun K hK=> ?_)
 go_simp
 refine(Calls.mono (jump_n b ((m.pc+im)%4294967296) oM oM ht _) ?_)
 rintro e w9 ⟨rfl,hw9⟩
 subst w9
 exact⟨rfl,rfl,tcb⟩):p:=h
theorem Xp6{p:Prop}(h:p:=by
 go_end0
 exact⟨rfl,H2.out,(HT.out.mono sP).trans (T2.out.mono sP)⟩):p:=h
theorem Xp7{p:Prop}(h:p:=by
 go_wp2_with fail
 go_quiet (fail)
 go_wp2_with fail
 go_ret
 exact⟨rfl,(((ref.Touch.refl _ _).alloc _).drewN _)⟩):p:=h
theorem Xp8{p:Prop}(h:p:=by exact(List.getElem?_eq_getElem (by simpa using hj)).symm):p:=h
theorem Xp9{p:Prop}(h:p:=by
 refine wpAnyH_done kR ?_ _
 go_wp2_with fail
 go_ret
 exact⟨rfl,((ref.Touch.refl _ _).alloc _).trans t2⟩):p:=h
theorem Xpa{p:Prop}(h:p:=by intro j hj;simp at hj;show((w.alloc (.cells #[.int .u8 0,.int .u8 0,.int .u8 0,.int .u8 0] 147)).cell? ⟨w.heap.size,0+j,none⟩).isSome=true;rw[World.cell?_alloc_at _ _ _ _ rfl];rcases j with _|_|_|_|j<;>first|rfl|omega):p:=h
theorem Xpb{p:Prop}(h:p:=by intro j hj;show(w.alloc (.cells #[.int .u8 0,.int .u8 0,.int .u8 0,.int .u8 0] 147)).frozen? ⟨w.heap.size,0+j,none⟩=false;exact World.frozen?_alloc_at _ _ _ _ rfl):p:=h
theorem Xpc{p:Prop}(h:p:=by first|with_reducible exact(ref.Touch.refl _ _).drew|assumption|(apply ref.Touch.mono (S:=[]) aS sP)|(with_reducible exact ref.Touch.refl _ _)):p:=h
theorem Xpd{p:Prop}(h:p:=by first|assumption|exact cpc):p:=h
theorem Xpe{p:Prop}(h:p:=by simp[Nat.min_def];omega):p:=h
namespace prog
open ChangeShapes WideShapes ChangeAt RowKit nums dnums mach
theorem size_u8:(Tryz.prog.info? 5).map (·.size)=some 1:=by kernel_rfl
theorem or_z(a k:Int)(a0:0<=a)(a1:a<=4294967295):bits BinOp.or IntKind.u32 a 0=a:=by
 rw[or_add a 0 0 a0 oM dC dC dC oM];omega
theorem orb2(a b:Int)(a0:0<=a)(a1:a<=255)(b0:0<=b)(b1:b<=255):bits BinOp.or IntKind.u32 a (b*256)=a+b*256:=ref.or_low a b 8 dC a0 oM b0 oM
theorem orb3(a c:Int)(a0:0<=a)(a1:a<=65535)(c0:0<=c)(c1:c<=255):bits BinOp.or IntKind.u32 a (c*65536)=a+c*65536:=ref.or_low a c 16 dC a0 oM c0 oM
theorem orb4(a d:Int)(a0:0<=a)(a1:a<=16777215)(d0:0<=d)(d1:d<=255):bits BinOp.or IntKind.u32 a (d*16777216)=a+d*16777216:=ref.or_low a d 24 dC a0 oM d0 oM
theorem touch_new:∀(vs:List Value) (o:Nat) (u w:World),ref.Touch [] u w->∀{g:Nat},u.heap.size<=g->ref.Touch [] u (w.setCells g o vs)
 |[],_,_,_,h,_,_=>h
 |v::r,o,u,w,h,g,hg=>touch_new r (o+1) u (w.setCell ⟨g,o,none⟩ v) ⟨h.os,h.tape,h.output,by simpa [World.setCell]using h.size,fun k hk hn=>(Below.heap_setCell w ⟨g,o,none⟩ v k (by show k≠g;omega)).trans (h.block k hk hn)⟩ hg
theorem ld_a(mem:Nat->Int)(a:Nat):ld mem a 1=mem a/\ld mem a 2=mem a+mem (a+1)*256/\ld mem a 4=mem a+mem (a+1)*256+mem (a+2)*65536+mem (a+3)*16777216:=by simp[ld]
theorem read_1{B b mb:Nat}{m:M}{nx:Int}{vX:Nat->Value}{w:World}(h:PAt B b mb m nx vX w)(a:Nat)(ha:a+1<=m.size)(hz:m.size<=512)(hm:∀i,0<=m.mem i/\m.mem i<=255):
  Calls Tryz.prog 102 #[.pointer (some ⟨b,0,none⟩),.int .u32 a,.int .u32 1] w fun e w'=>e=.returned (.int .u32 (ld m.mem a 1))/\ref.Touch [] w w':=by
 have lb:b<w.heap.size:=World.block_lt_of_cell? _ _ h.data
 have lm:mb<w.heap.size:=World.block_lt_of_cell? _ _ (h.bytes 0 oM)
 have hd:=h.data
 have q1:(a:Int)<=(m.size:Int):=by omega
 have q2:¬m.size=a:=by omega
 have q3:(0:Int)<=(a:Int):=by omega
 have hW:∀i,i<m.size->(w.alloc (.cells #[.int .u8 0,.int .u8 0,.int .u8 0,.int .u8 0] 147)).cell? ⟨mb,i,none⟩=some (.int .u8 (m.mem i)):=fun i hi=>(World.cell?_alloc_past _ _ _ lm).trans (h.bytes i hi)
 obtain⟨w1,hw1⟩:∃w1,w1=(w.alloc (.cells #[.int .u8 0,.int .u8 0,.int .u8 0,.int .u8 0] 147)).drew.setCells w.heap.size 0 [Value.int .u8 (m.mem a)]:=⟨_,rfl⟩
 have hrun:∀ty,(Builtin.copy_ #[74,74] ty #[.slice (some ⟨w.heap.size,0,none⟩) 1 4,.slice (some ⟨mb,a,none⟩) (m.size-a) (m.size-a)]).run Tryz.prog (w.alloc (.cells #[.int .u8 0,.int .u8 0,.int .u8 0,.int .u8 0] 147)).drew=.ok (goInt 1) w1:=fun ty=>by
  rw[hw1]
  exact run_copy_cells (P:=Tryz.prog) (w.alloc (.cells #[.int .u8 0,.int .u8 0,.int .u8 0,.int .u8 0] 147)).drew 74 74 ty 5 w.heap.size 0 1 4 ⟨mb,a,none⟩ (m.size-a) (m.size-a) [Value.int .u8 (m.mem a)] Tryz.underlying74 size_u8 Xpe
   (by intro j v hv;rcases j with _|j<;>simp at hv<;>subst hv<;>(simpa [Addr.add]using hW (a+0) oM))
   Xpa
   Xpb
   oC
 have hin:∀j,j<1->w1.cell? ⟨w.heap.size,0+j,none⟩=[Value.int .u8 (m.mem a)][j]?:=by
  intro j hj
  rw[hw1,World.cell?_setCells_in w.heap.size [Value.int .u8 (m.mem a)] 0 _ Xpa j (by simpa using hj)]
  exact Xp8
 have hou:∀j,1<=j->w1.cell? ⟨w.heap.size,j,none⟩=(#[.int .u8 0,.int .u8 0,.int .u8 0,.int .u8 0]:Array Value)[j]?:=by
  exact Xp2
 have e0:w1.cell? ⟨w.heap.size,0,none⟩=some (.int .u8 (m.mem a)):=hin 0 dC
 have e1:w1.cell? ⟨w.heap.size,1,none⟩=some (.int .u8 (0)):=hou 1 dC
 have e2:w1.cell? ⟨w.heap.size,2,none⟩=some (.int .u8 (0)):=hou 2 dC
 have e3:w1.cell? ⟨w.heap.size,3,none⟩=some (.int .u8 (0)):=hou 3 dC
 have b00:=(hm a).1
 have b01:=(hm a).2
 have HV:Hid (bits BinOp.or IntKind.u32 (bits BinOp.or IntKind.u32 (bits BinOp.or IntKind.u32 (m.mem a) (0)) (0)) (0)=ld m.mem a 1):=by
  have i1:=or_z (m.mem a) 0 oM oM
  rw[i1,i1,i1,(ld_a m.mem a).1]
  exact rfl
 exact Xp0
theorem read_2{B b mb:Nat}{m:M}{nx:Int}{vX:Nat->Value}{w:World}(h:PAt B b mb m nx vX w)(a:Nat)(ha:a+2<=m.size)(hz:m.size<=512)(hm:∀i,0<=m.mem i/\m.mem i<=255):
  Calls Tryz.prog 102 #[.pointer (some ⟨b,0,none⟩),.int .u32 a,.int .u32 2] w fun e w'=>e=.returned (.int .u32 (ld m.mem a 2))/\ref.Touch [] w w':=by
 have lb:b<w.heap.size:=World.block_lt_of_cell? _ _ h.data
 have lm:mb<w.heap.size:=World.block_lt_of_cell? _ _ (h.bytes 0 oM)
 have hd:=h.data
 have q1:(a:Int)<=(m.size:Int):=by omega
 have q2:¬m.size=a:=by omega
 have q3:(0:Int)<=(a:Int):=by omega
 have hW:∀i,i<m.size->(w.alloc (.cells #[.int .u8 0,.int .u8 0,.int .u8 0,.int .u8 0] 147)).cell? ⟨mb,i,none⟩=some (.int .u8 (m.mem i)):=fun i hi=>(World.cell?_alloc_past _ _ _ lm).trans (h.bytes i hi)
 obtain⟨w1,hw1⟩:∃w1,w1=(w.alloc (.cells #[.int .u8 0,.int .u8 0,.int .u8 0,.int .u8 0] 147)).drew.setCells w.heap.size 0 [Value.int .u8 (m.mem a),Value.int .u8 (m.mem (a+1))]:=⟨_,rfl⟩
 have hrun:∀ty,(Builtin.copy_ #[74,74] ty #[.slice (some ⟨w.heap.size,0,none⟩) 2 4,.slice (some ⟨mb,a,none⟩) (m.size-a) (m.size-a)]).run Tryz.prog (w.alloc (.cells #[.int .u8 0,.int .u8 0,.int .u8 0,.int .u8 0] 147)).drew=.ok (goInt 2) w1:=fun ty=>by
  rw[hw1]
  exact run_copy_cells (P:=Tryz.prog) (w.alloc (.cells #[.int .u8 0,.int .u8 0,.int .u8 0,.int .u8 0] 147)).drew 74 74 ty 5 w.heap.size 0 2 4 ⟨mb,a,none⟩ (m.size-a) (m.size-a) [Value.int .u8 (m.mem a),Value.int .u8 (m.mem (a+1))] Tryz.underlying74 size_u8 Xpe
   (by intro j v hv;rcases j with _|_|j<;>simp at hv<;>subst hv<;>first|(simpa [Addr.add]using hW (a+0) oM)|(simpa [Addr.add]using hW (a+1) oM))
   Xpa
   Xpb
   oC
 have hin:∀j,j<2->w1.cell? ⟨w.heap.size,0+j,none⟩=[Value.int .u8 (m.mem a),Value.int .u8 (m.mem (a+1))][j]?:=by
  intro j hj
  rw[hw1,World.cell?_setCells_in w.heap.size [Value.int .u8 (m.mem a),Value.int .u8 (m.mem (a+1))] 0 _ Xpa j (by simpa using hj)]
  exact Xp8
 have hou:∀j,2<=j->w1.cell? ⟨w.heap.size,j,none⟩=(#[.int .u8 0,.int .u8 0,.int .u8 0,.int .u8 0]:Array Value)[j]?:=by
  exact Xp2
 have e0:w1.cell? ⟨w.heap.size,0,none⟩=some (.int .u8 (m.mem a)):=hin 0 dC
 have e1:w1.cell? ⟨w.heap.size,1,none⟩=some (.int .u8 (m.mem (a+1))):=hin 1 dC
 have e2:w1.cell? ⟨w.heap.size,2,none⟩=some (.int .u8 (0)):=hou 2 dC
 have e3:w1.cell? ⟨w.heap.size,3,none⟩=some (.int .u8 (0)):=hou 3 dC
 have b00:=(hm a).1
 have b01:=(hm a).2
 have b10:=(hm (a+1)).1
 have b11:=(hm (a+1)).2
 have HV:Hid (bits BinOp.or IntKind.u32 (bits BinOp.or IntKind.u32 (bits BinOp.or IntKind.u32 (m.mem a) (m.mem (a+1)*256)) (0)) (0)=ld m.mem a 2):=by
  have i2:=orb2 (m.mem a) (m.mem (a+1)) b00 b01 b10 b11
  have i3:=or_z (m.mem a+m.mem (a+1)*256) 0 oM oM
  rw[i2,i3,i3,(ld_a m.mem a).2.1]
  exact rfl
 exact Xp0
theorem read_4{B b mb:Nat}{m:M}{nx:Int}{vX:Nat->Value}{w:World}(h:PAt B b mb m nx vX w)(a:Nat)(ha:a+4<=m.size)(hz:m.size<=512)(hm:∀i,0<=m.mem i/\m.mem i<=255):
  Calls Tryz.prog 102 #[.pointer (some ⟨b,0,none⟩),.int .u32 a,.int .u32 4] w fun e w'=>e=.returned (.int .u32 (ld m.mem a 4))/\ref.Touch [] w w':=by
 have lb:b<w.heap.size:=World.block_lt_of_cell? _ _ h.data
 have lm:mb<w.heap.size:=World.block_lt_of_cell? _ _ (h.bytes 0 oM)
 have hd:=h.data
 have q1:(a:Int)<=(m.size:Int):=by omega
 have q2:¬m.size=a:=by omega
 have q3:(0:Int)<=(a:Int):=by omega
 have hW:∀i,i<m.size->(w.alloc (.cells #[.int .u8 0,.int .u8 0,.int .u8 0,.int .u8 0] 147)).cell? ⟨mb,i,none⟩=some (.int .u8 (m.mem i)):=fun i hi=>(World.cell?_alloc_past _ _ _ lm).trans (h.bytes i hi)
 obtain⟨w1,hw1⟩:∃w1,w1=(w.alloc (.cells #[.int .u8 0,.int .u8 0,.int .u8 0,.int .u8 0] 147)).drew.setCells w.heap.size 0 [Value.int .u8 (m.mem a),Value.int .u8 (m.mem (a+1)),Value.int .u8 (m.mem (a+2)),Value.int .u8 (m.mem (a+3))]:=⟨_,rfl⟩
 have hrun:∀ty,(Builtin.copy_ #[74,74] ty #[.slice (some ⟨w.heap.size,0,none⟩) 4 4,.slice (some ⟨mb,a,none⟩) (m.size-a) (m.size-a)]).run Tryz.prog (w.alloc (.cells #[.int .u8 0,.int .u8 0,.int .u8 0,.int .u8 0] 147)).drew=.ok (goInt 4) w1:=fun ty=>by
  rw[hw1]
  exact run_copy_cells (P:=Tryz.prog) (w.alloc (.cells #[.int .u8 0,.int .u8 0,.int .u8 0,.int .u8 0] 147)).drew 74 74 ty 5 w.heap.size 0 4 4 ⟨mb,a,none⟩ (m.size-a) (m.size-a) [Value.int .u8 (m.mem a),Value.int .u8 (m.mem (a+1)),Value.int .u8 (m.mem (a+2)),Value.int .u8 (m.mem (a+3))] Tryz.underlying74 size_u8 Xpe
   (by intro j v hv;rcases j with _|_|_|_|j<;>simp at hv<;>subst hv<;>first|(simpa [Addr.add]using hW (a+0) oM)|(simpa [Addr.add]using hW (a+1) oM)|(simpa [Addr.add]using hW (a+2) oM)|(simpa [Addr.add]using hW (a+3) oM))
   Xpa
   Xpb
   oC
 have hin:∀j,j<4->w1.cell? ⟨w.heap.size,0+j,none⟩=[Value.int .u8 (m.mem a),Value.int .u8 (m.mem (a+1)),Value.int .u8 (m.mem (a+2)),Value.int .u8 (m.mem (a+3))][j]?:=by
  intro j hj
  rw[hw1,World.cell?_setCells_in w.heap.size [Value.int .u8 (m.mem a),Value.int .u8 (m.mem (a+1)),Value.int .u8 (m.mem (a+2)),Value.int .u8 (m.mem (a+3))] 0 _ Xpa j (by simpa using hj)]
  exact Xp8
 have hou:∀j,4<=j->w1.cell? ⟨w.heap.size,j,none⟩=(#[.int .u8 0,.int .u8 0,.int .u8 0,.int .u8 0]:Array Value)[j]?:=by
  exact Xp2
 have e0:w1.cell? ⟨w.heap.size,0,none⟩=some (.int .u8 (m.mem a)):=hin 0 dC
 have e1:w1.cell? ⟨w.heap.size,1,none⟩=some (.int .u8 (m.mem (a+1))):=hin 1 dC
 have e2:w1.cell? ⟨w.heap.size,2,none⟩=some (.int .u8 (m.mem (a+2))):=hin 2 dC
 have e3:w1.cell? ⟨w.heap.size,3,none⟩=some (.int .u8 (m.mem (a+3))):=hin 3 dC
 have b00:=(hm a).1
 have b01:=(hm a).2
 have b10:=(hm (a+1)).1
 have b11:=(hm (a+1)).2
 have b20:=(hm (a+2)).1
 have b21:=(hm (a+2)).2
 have b30:=(hm (a+3)).1
 have b31:=(hm (a+3)).2
 have HV:Hid (bits BinOp.or IntKind.u32 (bits BinOp.or IntKind.u32 (bits BinOp.or IntKind.u32 (m.mem a) (m.mem (a+1)*256)) (m.mem (a+2)*65536)) (m.mem (a+3)*16777216)=ld m.mem a 4):=by
  have i2:=orb2 (m.mem a) (m.mem (a+1)) b00 b01 b10 b11
  have i3:=orb3 (m.mem a+m.mem (a+1)*256) (m.mem (a+2)) oM oM b20 b21
  have i4:=orb4 (m.mem a+m.mem (a+1)*256+m.mem (a+2)*65536) (m.mem (a+3)) oM oM b30 b31
  rw[i2,i3,i4,(ld_a m.mem a).2.2]
  exact rfl
 exact Xp0
theorem PAt.sets {B b mb:Nat}{m:M}{nx:Int}{vX:Nat->Value}{w:World}(h:PAt B b mb m nx vX w)(k:Nat)(l:List Int)(f:Nat->Int)(hk:k+l.length<=m.size)(hf:∀i,f i=if k<=i/\i<k+l.length then l.getD (i-k) 0 else m.mem i):PAt B b mb {m with mem:=f } nx vX (w.setCells mb k (l.map (Value.int .u8))):=by
 have ne:=h.ne
 refine⟨h.hb,h.hmb,h.ne,fun i hi hM=> ?_, ?_,fun i=> ?_,fun i hi=> ?_,fun i=> ?_⟩
 ·rw[World.cell?_setCells_out _ _ _ _ _ (fun e=>absurd e ne)];exact h.cells i hi hM
 ·rw[World.cell?_setCells_out _ _ _ _ _ (fun e=>absurd e ne)];exact h.data
 ·rw[World.frozen?_setCells];exact h.free i
 ·show _=some (Value.int .u8 (f i))
  rw[hf i]
  by_cases e:k<=i/\i<k+l.length
  ·have hj:i-k<(l.map (Value.int .u8)).length:=by rw[List.length_map];omega
   have:=World.cell?_setCells_in mb (l.map (Value.int .u8)) k w (fun j hj=>by rw[List.length_map]at hj;rw[h.bytes (k+j) oM];rfl) (i-k) hj
   rw[show k+(i-k)=i by omega]at this
   rw[this,if_pos e]
   have hj2:i-k<l.length:=by omega
   simp[List.getD,hj2]
  ·rw[World.cell?_setCells_out _ _ _ _ _ (fun _ _=>by rw[List.length_map];show i<k\/k+l.length<=i;omega),if_neg e];exact h.bytes i hi
 ·rw[World.frozen?_setCells];exact h.freem i
theorem touch_sets{S:List Nat}{b:Nat}(hb:b∈S):∀(vs:List Value) (o:Nat) (u w:World),ref.Touch S u w->ref.Touch S u (w.setCells b o vs)
 |[],_,_,_,h=>h
 |v::r,o,u,w,h=>touch_sets hb r (o+1) u _ (h.setCell hb v)
def slotsV (n sb:Nat):Value:=if n=0 then .slice none 0 0 else .slice (some ⟨sb,0,none⟩) n n
structure PCt (B b mb sb:Nat) (X:List Nat) (m:M) (nx:Int) (vX:Nat->Value) (w:World):Prop where
 p:PAt B b mb m nx vX w
 c:CAt B sb X m w
 sl:vX 40=slotsV m.nslots sb
 bx:b∈X
 mx:mb∈X
theorem PCt.lift {B b mb sb:Nat}{X:List Nat}{m m2:M}{nx nx2:Int}{vX:Nat->Value}{w w':World}(h:PCt B b mb sb X m nx vX w)(hp:PAt B b mb m2 nx2 vX w')(t:ref.Touch [b,mb] w w')(e1:m2.nslots=m.nslots)(e2:m2.slots=m.slots)(e3:m2.mem=m.mem)(e4:m2.blocks=m.blocks:=by rfl):PCt B b mb sb X m2 nx2 vX w':=
 ⟨hp,(h.c.touch t (by intro s hs;simp at hs;rcases hs with rfl|rfl;exact h.bx;exact h.mx)).congr e1 e2 e3 e4,by rw[e1];exact h.sl,h.bx,h.mx⟩
theorem PCt.quiet {B b mb sb:Nat}{X:List Nat}{m:M}{nx:Int}{vX:Nat->Value}{w w':World}(h:PCt B b mb sb X m nx vX w)(hz:0<m.size)(t:ref.Touch [] w w'):PCt B b mb sb X m nx vX w':=
 h.lift (h.p.other t sP sP hz) (t.mono sP) rfl rfl rfl
theorem PCt.cS {B b mb sb:Nat}{X:List Nat}{m:M}{nx:Int}{vX:Nat->Value}{w:World}(h:PCt B b mb sb X m nx vX w):w.cell? ⟨b,40,none⟩=some (slotsV m.nslots sb):=by
 rw[<-h.sl];exact h.p.cells 40 dC dC
theorem wrote_hitp(m:M)(a n:Int)(n0:0<=n)(i:Nat):(wrote m a n).slots i=if hitp a (a+n) (m.slots i).1 then(0,0)else m.slots i:=by
 unfold wrote
 by_cases e:n=0
 ·rw[if_pos e,if_neg (by simp[hitp,e])]
 ·rw[if_neg e]
  show(if hit (m.slots i) a n then(0,0)else m.slots i)=_
  unfold hit hitp
  exact if_eqv (by simp only[decide_eq_true_eq];omega) _ _
theorem wrote_g(m:M)(a n:Int):(wrote m a n).nslots=m.nslots/\(wrote m a n).mem=m.mem/\(wrote m a n).size=m.size/\(wrote m a n).regs=m.regs/\(wrote m a n).pc=m.pc/\(wrote m a n).brk=m.brk/\(wrote m a n).steps=m.steps/\(wrote m a n).ended=m.ended/\(wrote m a n).low=m.low/\(wrote m a n).evs=m.evs/\(wrote m a n).ans=m.ans/\(wrote m a n).arena=m.arena/\(wrote m a n).used=m.used/\(wrote m a n).blocks=m.blocks/\(wrote m a n).fuel=m.fuel:=by
 unfold wrote;by_cases e:n=0<;>simp[e]
theorem PAt.cong {B b mb:Nat}{m m':M}{nx:Int}{vX:Nat->Value}{w:World}(h:PAt B b mb m nx vX w)(e1:m'.regs=m.regs)(e2:m'.pc=m.pc)(e3:m'.brk=m.brk)(e4:m'.steps=m.steps)(e5:m'.mem=m.mem)(e6:m'.size=m.size):PAt B b mb m' nx vX w:=by
 refine⟨h.hb,h.hmb,h.ne,fun i hi hM=> ?_, ?_,h.free,fun i hi=> ?_,h.freem⟩
 ·rw[h.cells i hi hM]
  simp only[layP,e1,e2,e3,e4]
 ·rw[e6];exact h.data
 ·rw[e5];exact h.bytes i (by rw[e6]at hi;exact hi)
def FoQ (B sb:Nat) (X:List Nat) (m:M) (w:World) (fr tq:Int) (w1 w2:World):Prop:=
 (m.nslots=0/\w2=w1)\/(m.nslots≠0/\∃g:Nat->Int × Value,(∀i,i<m.nslots->(g i).1=(m.slots i).1/\SlotV B (sb::(sb+1)::X) m.mem (m.slots i) (g i).2 w)/\RowIn sb m.nslots (fun i=>if hitp fr tq (g i).1 then(0,nilV)else g i) w2/\ref.Touch [sb] w1 w2)
theorem put_at{B b mb sb:Nat}{X:List Nat}{m:M}{nx:Int}{vX:Nat->Value}{w:World}(h:PCt B b mb sb X m nx vX w)(hz:0<m.size)(a n:Nat)(f:Nat->Int)(hf:∀i,¬(a<=i/\i<a+n)->f i=m.mem i)(w1 w2:World)(h1:PAt B b mb {m with mem:=f } nx vX w1)(t1:ref.Touch [mb] w w1)
  (hq:FoQ B sb X m w a ((a:Int)+n) w1 w2):
  PCt B b mb sb X (wrote {m with mem:=f } a n) nx vX w2/\ref.Touch [mb,sb] w w2:=by
 obtain⟨g1,g2,g3,g4,g5,g6,g7,_⟩:=wrote_g {m with mem:=f } a n
 have hs:=wrote_hitp {m with mem:=f } a n oM
 rcases hq with⟨h0,rfl⟩|⟨h0,g,hg,hr,t2⟩
 ·exact⟨⟨h1.cong g4 g5 g6 g7 g2 g3,CAt.none _ _ _ _ _ (g1.trans h0),by rw[g1];exact h.sl,h.bx,h.mx⟩,t1.mono sP⟩
 ·obtain⟨_,hsX⟩:=h.c.sx h0
  have n1:b≠sb:=fun e=>hsX (e ▸ h.bx)
  have n2:mb≠sb:=fun e=>hsX (e ▸ h.mx)
  have t3:ref.Touch [mb,sb] w w2:=(t1.mono sP).trans (t2.mono sP)
  refine⟨⟨(h1.other t2 (by simpa using n1) (by simpa using n2) hz).cong g4 g5 g6 g7 g2 g3, ?_,by rw[g1];exact h.sl,h.bx,h.mx⟩,t3⟩
  refine h.c.forgot h0 hg a ((a:Int)+n) hr t3 (by intro s hs;simp at hs ⊢;rcases hs with rfl|rfl;exact Or.inr h.mx;exact Or.inl rfl) _ g1 (wrote_g _ _ _).2.2.2.2.2.2.2.2.2.2.2.2.2.1 hs (fun p i h3 h4=> ?_)
  rw[g2]
  refine hf i (fun h5=> ?_)
  simp[hitp]at h3
  omega
theorem put_fo{B b mb sb:Nat}{X:List Nat}{m:M}{nx:Int}{vX:Nat->Value}{w:World}(h:PCt B b mb sb X m nx vX w)(hz:0<m.size)(a n:Nat)(w1:World)(t1:ref.Touch [mb] w w1):Calls Tryz.prog 182 #[.pointer (some ⟨b,40,none⟩),.int .u32 a,.int .u32 ((a:Int)+n)] w1 fun e w2=>e=.returned (.tuple #[])/\FoQ B sb X m w a ((a:Int)+n) w1 w2:=by
 have lb:b<w.heap.size:=World.block_lt_of_cell? _ _ h.p.data
 have nb:b∉[mb]:=by simpa using h.p.ne
 have c1:w1.cell? ⟨b,40,none⟩=some (slotsV m.nslots sb):=(t1.cell (p:=⟨b,40,none⟩) lb nb).trans h.cS
 by_cases h0:m.nslots=0
 ·rw[slotsV,if_pos h0]at c1
  refine(forget_no b 40 w1 c1 _ _).mono ?_
  rintro e w2 ⟨rfl,rfl⟩
  exact⟨rfl,Or.inl ⟨h0,rfl⟩⟩
 ·rw[slotsV,if_neg h0]at c1
  obtain⟨_,hsX⟩:=h.c.sx h0
  have n1:b≠sb:=fun e=>hsX (e ▸ h.bx)
  have n2:mb≠sb:=fun e=>hsX (e ▸ h.mx)
  obtain⟨g,hr,hg⟩:=h.c.row h0
  refine(forget_in b sb m.nslots g w1 (hr.other oM t1 (by simpa using fun e=>n2 e.symm)) n1 h.c.le oM 40 c1 (fun i hi=>by have:=(hg i hi).2.slice;have e:=(hg i hi).1;omega) (fun i hi=>(hg i hi).2.slice.1) _ _).mono ?_
  rintro e w2 ⟨rfl,q1,q2⟩
  exact⟨rfl,Or.inr ⟨h0,g,hg,q1,q2⟩⟩
theorem put_y{B b mb sb:Nat}{X:List Nat}{m:M}{nx:Int}{vX:Nat->Value}{w:World}(h:PCt B b mb sb X m nx vX w)(hz:m.size<=512)(a gb c n:Nat)(l:List Int)(hn:n=l.length)(hnc:n<=c)(ha:a+n<=m.size)(hlt:a<m.size)(hl:∀j v,l[j]?=some v->w.cell? ⟨gb,j,none⟩=some (.int .u8 v))(f:Nat->Int)(hf:∀i,f i=if a<=i/\i<a+n then l.getD (i-a) 0 else m.mem i):
  Calls Tryz.prog 174 #[.pointer (some ⟨b,0,none⟩),.int .u32 a,.slice (some ⟨gb,0,none⟩) n c] w fun e w'=>e=.returned (.tuple #[])/\PCt B b mb sb X (wrote {m with mem:=f } a n) nx vX w'/\ref.Touch [mb,sb] w w':=by
 have hd:=h.p.data
 have q1:(a:Int)<=(m.size:Int):=by omega
 have q2:¬m.size=a:=by omega
 have q3:(0:Int)<=(a:Int):=by omega
 have q4:(0:Int)<=(n:Int):=by omega
 have q5:(a:Int)+(n:Int)<=512:=by omega
 obtain⟨w1,hw1⟩:∃w1,w1=w.setCells mb a (l.map (Value.int .u8)):=⟨_,rfl⟩
 have hrun:∀ty,(Builtin.copy_ #[74,74] ty #[.slice (some ⟨mb,a,none⟩) (m.size-a) (m.size-a),.slice (some ⟨gb,0,none⟩) n c]).run Tryz.prog w=.ok (goInt n) w1:=fun ty=>by
  rw[hw1]
  have hmin:min (m.size-a) n=n:=Nat.min_eq_right oM
  have:=run_copy_cells (P:=Tryz.prog) w 74 74 ty 5 mb a (m.size-a) (m.size-a) ⟨gb,0,none⟩ n c (l.map (Value.int .u8)) Tryz.underlying74 size_u8 (by simp[Nat.min_def,<-hn];omega)
   (by intro j u hu;rw[show(⟨gb,0,none⟩:Addr).add j=⟨gb,j,none⟩from by unfold Addr.add;by_cases z:j=0<;>simp[z]];rw[List.getElem?_map]at hu;obtain⟨v,hv,rfl⟩:=Option.map_eq_some_iff.1 hu;exact hl j v hv)
   (by intro j hj;rw[List.length_map]at hj;rw[h.p.bytes (a+j) oM];rfl)
   (by intro j hj;exact h.p.freem _)
   oC
  rw[this]
  simp[hn]
 have HP:Hid (PAt B b mb {m with mem:=f } nx vX w1):=by
  rw[hw1]
  exact h.p.sets a l f oM (fun i=>by rw[hf i,hn])
 have HT:Hid (ref.Touch [mb] w w1):=by rw[hw1];exact touch_sets sP _ _ _ _ (ref.Touch.refl _ _)
 have HH:Hid (PCt B b mb sb X m nx vX w):=h
 have HF:Hid (∀i,¬(a<=i/\i<a+n)->f i=m.mem i):=fun i hi=>by rw[hf i,if_neg hi]
 clear h hw1 hf hl hn
 go_enter Tryz.func174,Tryz.ntmps174
 go_wp2_with (first|(go_at_call 182;refine(Calls.mono (put_fo HH.out oM a n w1 HT.out) ?_);rintro e w2 ⟨rfl,hq⟩;have HQ:Hid (_):=hq;clear hq))
 go_end0
 obtain⟨r1,r2⟩:=put_at HH.out oM a n f HF.out w1 w2 HP.out HT.out HQ.out
 exact⟨rfl,r1,r2⟩
theorem put_n{B b mb sb:Nat}{X:List Nat}{m:M}{nx:Int}{vX:Nat->Value}{w:World}(h:PCt B b mb sb X m nx vX w)(hz:m.size<=512)(h0:0<m.size)(gb c:Nat):
  Calls Tryz.prog 174 #[.pointer (some ⟨b,0,none⟩),.int .u32 m.size,.slice (some ⟨gb,0,none⟩) 0 c] w fun e w'=>e=.returned (.tuple #[])/\PCt B b mb sb X m nx vX w'/\ref.Touch [mb,sb] w w':=by
 have hd:=h.p.data
 have hrun:∀ty,(Builtin.copy_ #[74,74] ty #[.slice (some ⟨mb,0,none⟩) 0 0,.slice (some ⟨gb,0,none⟩) 0 c]).run Tryz.prog w=.ok (goInt 0) w:=fun ty=>by
  have:=run_copy_cells (P:=Tryz.prog) w 74 74 ty 5 mb 0 0 0 ⟨gb,0,none⟩ 0 c [] Tryz.underlying74 size_u8 sP (by intro j u hu;simp at hu) (by intro j hj;simp at hj) (by intro j hj;simp at hj) sP
  exact this
 have HH:Hid (PCt B b mb sb X m nx vX w):=h
 have HF:Hid (Calls Tryz.prog 182 #[.pointer (some ⟨b,40,none⟩),.int .u32 m.size,.int .u32 m.size] w fun e w2=>e=.returned (.tuple #[])/\FoQ B sb X m w m.size m.size w w2):=by
  have:=put_fo h h0 m.size 0 w (ref.Touch.refl _ _)
  simp only[Int.natCast_zero,Int.add_zero]at this
  exact this
 clear h
 go_enter Tryz.func174,Tryz.ntmps174
 go_wp2_with (first|(go_at_call 182;refine(Calls.mono HF.out ?_);rintro e w2 ⟨rfl,hq⟩;have HQ:Hid (_):=hq;clear hq))
 go_end0
 obtain⟨r1,r2⟩:=put_at HH.out h0 m.size 0 m.mem (fun _ _=>rfl) w w2 ⟨HH.out.p.hb,HH.out.p.hmb,HH.out.p.ne,HH.out.p.cells,HH.out.p.data,HH.out.p.free,HH.out.p.bytes,HH.out.p.freem⟩ (ref.Touch.refl _ _) (by simp only[Int.natCast_zero,Int.add_zero];exact HQ.out)
 exact⟨rfl,r1,r2⟩
theorem write_1{B b mb sb:Nat}{X:List Nat}{m:M}{nx:Int}{vX:Nat->Value}{w:World}(h:PCt B b mb sb X m nx vX w)(a:Nat)(v:Int)(v0:0<=v)(v1:v<=4294967295)(ha:a+1<=m.size)(hz:m.size<=512):
  Calls Tryz.prog 170 #[.pointer (some ⟨b,0,none⟩),.int .u32 a,.int .u32 1,.int .u32 v] w fun e w'=>e=.returned (.tuple #[])/\PCt B b mb sb X (wrote {m with mem:=st m.mem a 1 v } a 1) nx vX w'/\ref.Touch [b,mb,sb] w w':=by
 have tW:ref.Touch [] w (w.alloc (.cells #[.int .u8 (v%256),.int .u8 (v/256%256),.int .u8 (v/65536%256),.int .u8 (v/16777216)] 147)):=(ref.Touch.refl _ _).alloc _
 have HW:Hid (PCt B b mb sb X m nx vX (w.alloc (.cells #[.int .u8 (v%256),.int .u8 (v/256%256),.int .u8 (v/65536%256),.int .u8 (v/16777216)] 147))):=h.quiet oM tW
 have HE:Hid (∀i,st m.mem a 1 v i=if a<=i/\i<a+1 then [v%256].getD (i-a) 0 else m.mem i):=fun i=>by
  rw[<-ref.st_1 m.mem a v]
  by_cases e:a<=i/\i<a+1
  ·obtain⟨k,rfl⟩:∃k,i=a+k:=⟨i-a,by omega⟩
   have hk:k<1:=by omega
   rw[if_pos e,show a+k-a=k by omega]
   rcases k with _|k
   ·simp
   ·omega
  ·rw[if_neg e]
   simp[show ¬i=a by omega]
 have HL:Hid (∀j u,([v%256]:List Int)[j]?=some u->(w.alloc (.cells #[.int .u8 (v%256),.int .u8 (v/256%256),.int .u8 (v/65536%256),.int .u8 (v/16777216)] 147)).cell? ⟨w.heap.size,j,none⟩=some (.int .u8 u)):=fun j u hu=>by
  rw[World.cell?_alloc_at _ _ _ _ rfl]
  rcases j with _|j<;>simp at hu<;>subst hu<;>rfl
 have HT:Hid (ref.Touch [] w (w.alloc (.cells #[.int .u8 (v%256),.int .u8 (v/256%256),.int .u8 (v/65536%256),.int .u8 (v/16777216)] 147))):=tW
 clear h tW
 go_enter Tryz.func170,Tryz.ntmps170
 go_wp2_with (first|(go_at_call 174;refine(Calls.mono (put_y HW.out hz a w.heap.size 4 1 [v%256] rfl dC ha oM HL.out _ HE.out) ?_);rintro e w2 ⟨rfl,hp2,ht2⟩;have H2:Hid (PCt B b mb sb X (wrote {m with mem:=st m.mem a 1 v } a (1:Nat)) nx vX w2):=hp2;have T2:Hid (ref.Touch [mb,sb] _ w2):=ht2;clear hp2 ht2))
 exact Xp6
theorem write_2{B b mb sb:Nat}{X:List Nat}{m:M}{nx:Int}{vX:Nat->Value}{w:World}(h:PCt B b mb sb X m nx vX w)(a:Nat)(v:Int)(v0:0<=v)(v1:v<=4294967295)(ha:a+2<=m.size)(hz:m.size<=512):
  Calls Tryz.prog 170 #[.pointer (some ⟨b,0,none⟩),.int .u32 a,.int .u32 2,.int .u32 v] w fun e w'=>e=.returned (.tuple #[])/\PCt B b mb sb X (wrote {m with mem:=st m.mem a 2 v } a 2) nx vX w'/\ref.Touch [b,mb,sb] w w':=by
 have tW:ref.Touch [] w (w.alloc (.cells #[.int .u8 (v%256),.int .u8 (v/256%256),.int .u8 (v/65536%256),.int .u8 (v/16777216)] 147)):=(ref.Touch.refl _ _).alloc _
 have HW:Hid (PCt B b mb sb X m nx vX (w.alloc (.cells #[.int .u8 (v%256),.int .u8 (v/256%256),.int .u8 (v/65536%256),.int .u8 (v/16777216)] 147))):=h.quiet oM tW
 have HE:Hid (∀i,st m.mem a 2 v i=if a<=i/\i<a+2 then [v%256,v/256%256].getD (i-a) 0 else m.mem i):=fun i=>by
  rw[<-ref.st_2 m.mem a v]
  by_cases e:a<=i/\i<a+2
  ·obtain⟨k,rfl⟩:∃k,i=a+k:=⟨i-a,by omega⟩
   have hk:k<2:=by omega
   rw[if_pos e,show a+k-a=k by omega]
   rcases k with _|_|k
   ·simp
   ·simp
   ·omega
  ·rw[if_neg e]
   simp[show ¬i=a by omega,show ¬i=a+1 by omega]
 have HL:Hid (∀j u,([v%256,v/256%256]:List Int)[j]?=some u->(w.alloc (.cells #[.int .u8 (v%256),.int .u8 (v/256%256),.int .u8 (v/65536%256),.int .u8 (v/16777216)] 147)).cell? ⟨w.heap.size,j,none⟩=some (.int .u8 u)):=fun j u hu=>by
  rw[World.cell?_alloc_at _ _ _ _ rfl]
  rcases j with _|_|j<;>simp at hu<;>subst hu<;>rfl
 have HT:Hid (ref.Touch [] w (w.alloc (.cells #[.int .u8 (v%256),.int .u8 (v/256%256),.int .u8 (v/65536%256),.int .u8 (v/16777216)] 147))):=tW
 clear h tW
 go_enter Tryz.func170,Tryz.ntmps170
 go_wp2_with (first|(go_at_call 174;refine(Calls.mono (put_y HW.out hz a w.heap.size 4 2 [v%256,v/256%256] rfl dC ha oM HL.out _ HE.out) ?_);rintro e w2 ⟨rfl,hp2,ht2⟩;have H2:Hid (PCt B b mb sb X (wrote {m with mem:=st m.mem a 2 v } a (2:Nat)) nx vX w2):=hp2;have T2:Hid (ref.Touch [mb,sb] _ w2):=ht2;clear hp2 ht2))
 exact Xp6
theorem write_4{B b mb sb:Nat}{X:List Nat}{m:M}{nx:Int}{vX:Nat->Value}{w:World}(h:PCt B b mb sb X m nx vX w)(a:Nat)(v:Int)(v0:0<=v)(v1:v<=4294967295)(ha:a+4<=m.size)(hz:m.size<=512):
  Calls Tryz.prog 170 #[.pointer (some ⟨b,0,none⟩),.int .u32 a,.int .u32 4,.int .u32 v] w fun e w'=>e=.returned (.tuple #[])/\PCt B b mb sb X (wrote {m with mem:=st m.mem a 4 v } a 4) nx vX w'/\ref.Touch [b,mb,sb] w w':=by
 have tW:ref.Touch [] w (w.alloc (.cells #[.int .u8 (v%256),.int .u8 (v/256%256),.int .u8 (v/65536%256),.int .u8 (v/16777216)] 147)):=(ref.Touch.refl _ _).alloc _
 have HW:Hid (PCt B b mb sb X m nx vX (w.alloc (.cells #[.int .u8 (v%256),.int .u8 (v/256%256),.int .u8 (v/65536%256),.int .u8 (v/16777216)] 147))):=h.quiet oM tW
 have HE:Hid (∀i,st m.mem a 4 v i=if a<=i/\i<a+4 then [v%256,v/256%256,v/65536%256,v/16777216].getD (i-a) 0 else m.mem i):=fun i=>by
  rw[<-ref.st_4 m.mem a v v0 v1]
  by_cases e:a<=i/\i<a+4
  ·obtain⟨k,rfl⟩:∃k,i=a+k:=⟨i-a,by omega⟩
   have hk:k<4:=by omega
   rw[if_pos e,show a+k-a=k by omega]
   rcases k with _|_|_|_|k
   ·simp
   ·simp
   ·simp
   ·simp
   ·omega
  ·rw[if_neg e]
   simp[show ¬i=a by omega,show ¬i=a+1 by omega,show ¬i=a+2 by omega,show ¬i=a+3 by omega]
 have HL:Hid (∀j u,([v%256,v/256%256,v/65536%256,v/16777216]:List Int)[j]?=some u->(w.alloc (.cells #[.int .u8 (v%256),.int .u8 (v/256%256),.int .u8 (v/65536%256),.int .u8 (v/16777216)] 147)).cell? ⟨w.heap.size,j,none⟩=some (.int .u8 u)):=fun j u hu=>by
  rw[World.cell?_alloc_at _ _ _ _ rfl]
  rcases j with _|_|_|_|j<;>simp at hu<;>subst hu<;>rfl
 have HT:Hid (ref.Touch [] w (w.alloc (.cells #[.int .u8 (v%256),.int .u8 (v/256%256),.int .u8 (v/65536%256),.int .u8 (v/16777216)] 147))):=tW
 clear h tW
 go_enter Tryz.func170,Tryz.ntmps170
 go_wp2_with (first|(go_at_call 174;refine(Calls.mono (put_y HW.out hz a w.heap.size 4 4 [v%256,v/256%256,v/65536%256,v/16777216] rfl dC ha oM HL.out _ HE.out) ?_);rintro e w2 ⟨rfl,hp2,ht2⟩;have H2:Hid (PCt B b mb sb X (wrote {m with mem:=st m.mem a 4 v } a (4:Nat)) nx vX w2):=hp2;have T2:Hid (ref.Touch [mb,sb] _ w2):=ht2;clear hp2 ht2))
 exact Xp6
end prog
namespace prog
open ChangeShapes WideShapes ChangeAt RowKit nums dnums mach
attribute [local go_sem ↓] Go.wp_at_zero Go.wp_at_succ
theorem first_any{B b mb:Nat}{m:M}{nx:Int}{vX:Nat->Value}{w:World}(h:PAt B b mb m nx vX w)(op rd q1 q2 im:Int)(hI:IB rd q1 q2 im)(hz:0<m.size):
  Calls Tryz.prog 146 #[.pointer (some ⟨b,0,none⟩),.agg #[.int .i64 op,.int .i64 rd,.int .i64 q1,.int .i64 q2,.int .i32 im]] w fun e w'=>e=.returned (.int .u32 (m.regs q1.toNat))/\ref.Touch [] w w':=by
 have⟨rd0,rd1,q10,q11,q20,q21,i0,i1⟩:=hI
 have lb:b<w.heap.size:=World.block_lt_of_cell? _ _ h.data
 have ca:=h.reg q1.toNat oM
 have q12:q1<32:=by omega
 clear h
 go_enter Tryz.func146,Tryz.ntmps146
 exact Xp7
theorem second_any{B b mb:Nat}{m:M}{nx:Int}{vX:Nat->Value}{w:World}(h:PAt B b mb m nx vX w)(op rd q1 q2 im:Int)(hI:IB rd q1 q2 im)(hz:0<m.size):
  Calls Tryz.prog 148 #[.pointer (some ⟨b,0,none⟩),.agg #[.int .i64 op,.int .i64 rd,.int .i64 q1,.int .i64 q2,.int .i32 im]] w fun e w'=>e=.returned (.int .u32 (m.regs q2.toNat))/\ref.Touch [] w w':=by
 have⟨rd0,rd1,q10,q11,q20,q21,i0,i1⟩:=hI
 have lb:b<w.heap.size:=World.block_lt_of_cell? _ _ h.data
 have ca:=h.reg q2.toNat oM
 have q12:q2<32:=by omega
 clear h
 go_enter Tryz.func148,Tryz.ntmps148
 exact Xp7
abbrev bx (w:World) (op rd q1 q2 im:Int):World:=(w.alloc (.cells #[.int .i64 op,.int .i64 rd,.int .i64 q1,.int .i64 q2,.int .i32 im] 61))
abbrev sbx (w:World) (b:Nat) (m:M) (op rd q1 q2 im:Int) (w':World):Prop:=w'.cell? ⟨w.heap.size,0,none⟩=some (.int .i64 op)/\w'.cell? ⟨w.heap.size,1,none⟩=some (.int .i64 rd)/\w'.cell? ⟨w.heap.size,2,none⟩=some (.int .i64 q1)/\w'.cell? ⟨w.heap.size,3,none⟩=some (.int .i64 q2)/\w'.cell? ⟨w.heap.size,4,none⟩=some (.int .i32 im)/\w'.cell? ⟨b,33,none⟩=some (.int .u32 m.pc)
theorem tk{P:Program}{md:Region.Mode}{ops:Array Oper}{Q:Exit->Act->World->Prop}{S:World->Prop}{i:Nat}{oi:Oper}{v:Value}{fuel:Nat}{listed:Array Bool}{a:Act}{w:World}(hi:ops[i]?=some oi)
  (hk:(Region.noSelect ops&&Region.free md ops listed i&&(Region.ready md ops listed).contains i)=true) (hQ:∀c a w,Q (.panic c) (a.put oi.dst v) w->Q (.panic c) a w)
  (hw:Region.wanted oi (yielded ops a.tmps)=true) (hy:∀w,S w->(execOp a.eval oi).run P w=.ok (.value v) w) (hS:S w)
  (h:wpAnyH P md ops Q S fuel (listed.setIfInBounds i true) (a.put oi.dst v) w):wpAnyH P md ops Q S (fuel+1) listed a w:=by
 simp only[Bool.and_eq_true]at hk
 exact wpAnyH_take hi hk.1.1 hk.1.2 hk.2 hQ (Or.inl ⟨hw,hy⟩) hS h
theorem tkk{P:Program}{md:Region.Mode}{ops:Array Oper}{Q:Exit→Act→World→Prop}{S:World→Prop}{oi:Oper}{v:Value}{fuel:Nat}{listed:Array Bool}{a:Act}{w:World}(i d:Nat)
  (h:wpAnyH P md ops Q S fuel (listed.setIfInBounds i true) (a.put (some d) v) w) (hi:ops[i]?=some oi:=by rfl) (hd:oi.dst=some d:=by rfl)
  (hk:(Region.noSelect ops&&Region.free md ops listed i&&(Region.ready md ops listed).contains i)=true:=by kernel_rfl) (hQ:∀c a w,Q (.panic c) (a.put oi.dst v) w→Q (.panic c) a w:=by exact fun _ _ _ h=>h)
  (hw:Region.wanted oi (yielded ops a.tmps)=true:=by rfl) (hy:∀w,S w→(execOp a.eval oi).run P w=.ok (.value v) w:=by intro w' hSw;(try dsimp only[sbx]at hSw);go_simp;try with_reducible rfl) (hS:S w:=by assumption):
  wpAnyH P md ops Q S (fuel+1) listed a w:=tk hi hk hQ hw hy hS (by rw[hd];exact h)
theorem rdy{P:Program}{md:Region.Mode}{ops:Array Oper}{Q:Exit→Act→World→Prop}{S:World→Prop}{o:Oper}{fuel:Nat}{listed:Array Bool}{a:Act}{w:World}(i:Nat)
  (h:∀K':Act→World→Prop,Shut (∀a w,S w→(S w→wpAnyH P md ops Q S fuel (listed.setIfInBounds i true) a w)→K' a w)→Oper.wp P o a w K' Q) (ho:ops[i]?=some o:=by rfl) (hr:Region.ready md ops listed=[i]:=by kernel_rfl)
  (hw:Region.wanted o (yielded ops a.tmps)=true:=by rfl):wpAnyH P md ops Q S (fuel+1) listed a w:=
 wpAnyH_ready hr (by simp) (AllReadyH.cons ho (fun K hK=>by rw[if_pos hw];exact h K hK) AllReadyH.nil)
theorem tpp{B b mb:Nat}{m:M}{nx:Int}{vX:Nat→Value}{W u v:World}(H:Hid (∀w',ref.Touch [] W w'→PAt B b mb m nx vX w'))(ht:ref.Touch [] u v)(t0:ref.Touch [] W u:=by repeat' (first|with_reducible exact tR _ _|with_reducible apply tD|with_reducible apply tN|assumption)):ref.Touch [] W v∧v.cell? ⟨b,33,none⟩=some (.int .u32 m.pc):=
 ⟨t0.trans ht,(H.out _ (t0.trans ht)).cells 33 (by decide) (by decide)⟩
theorem rgh{id:Nat}{ops:Array Oper}{Q:Exit->Act->World->Prop}{a:Act}{W:World}{b:Nat}{v:Value}{S:World->Prop}{T:List Nat}(H:Hid (∀w',ref.Touch T W w'->w'.cell? ⟨b,33,none⟩=some v->S w'))(hc:W.cell? ⟨b,33,none⟩=some v)
  (h:S W.drew->wpAnyH Tryz.prog .any ops Q S ops.size (Array.replicate ops.size false) a W.drew):(Code.region id ops true).wp Tryz.prog Q a W:=wp_region_held_drew (by kernel_rfl) (H.out _ (ref.Touch.refl _ _).drew hc) h
theorem pre_any{B b mb:Nat}{m:M}{nx:Int}{vX:Nat->Value}{w:World}(h:PAt B b mb m nx vX w)(op rd q1 q2 im:Int)(hz:0<m.size)(hf:Fine m):
  b<w.heap.size/\Hid (PAt B b mb m nx vX (bx w op rd q1 q2 im))/\Hid (∀w',ref.Touch [] (bx w op rd q1 q2 im) w'->PAt B b mb m nx vX w')/\Hid (0<m.size)/\Hid (Fine m)/\Hid (∀w',ref.Touch [b] (bx w op rd q1 q2 im) w'->w'.cell? ⟨b,33,none⟩=some (.int .u32 m.pc)->(sbx w b m op rd q1 q2 im) w')/\(bx w op rd q1 q2 im).cell? ⟨b,33,none⟩=some (.int .u32 m.pc)/\
  0<=m.regs q1.toNat/\m.regs q1.toNat<=4294967295/\0<=m.regs q2.toNat/\m.regs q2.toNat<=4294967295/\0<=m.pc/\m.pc<=4294967295/\IntKind.u32.wrap im=im%4294967296:=by
 have lb:b<w.heap.size:=World.block_lt_of_cell? _ _ h.data
 have HH:PAt B b mb m nx vX (w.alloc (.cells #[.int .i64 op,.int .i64 rd,.int .i64 q1,.int .i64 q2,.int .i32 im] 61)):=h.other ((ref.Touch.refl [] _).alloc _) sP sP hz
 refine⟨lb,HH,fun w' t=>HH.other t sP sP hz,hz,hf,fun w' t hp=> ?_,HH.cells 33 dC dC,(hf.regs q1.toNat).1,(hf.regs q1.toNat).2,(hf.regs q2.toNat).1,(hf.regs q2.toNat).2,hf.pc.1,hf.pc.2,IntKind.wrap_u32 _⟩
 exact Xp1
theorem pre2_any{B b mb:Nat}{m:M}{nx:Int}{vX:Nat->Value}{w:World}(h:PAt B b mb m nx vX w)(op rd q1 q2 im:Int)(hz:0<m.size):mb<w.heap.size/\Hid (∀w',ref.Touch [b,mb] (bx w op rd q1 q2 im) w'->w'.cell? ⟨b,33,none⟩=some (.int .u32 m.pc)->(sbx w b m op rd q1 q2 im) w'):=by
 have lb:b<w.heap.size:=World.block_lt_of_cell? _ _ h.data
 have lm:mb<w.heap.size:=World.block_lt_of_cell? _ _ (h.bytes 0 hz)
 refine⟨lm,fun w' t hp=> ?_⟩
 exact Xp1
theorem set_pc{B b mb:Nat}{m:M}{nx:Int}{vX:Nat->Value}{w:World}{r v:Int}(h:PAt B b mb (setReg m r v) nx vX w):w.cell? ⟨b,33,none⟩=some (.int .u32 m.pc):=by
 have e:(setReg m r v).pc=m.pc:=by unfold setReg;by_cases e:r=0<;>simp[e]
 rw[<-e];exact h.cells 33 dC dC
theorem setReg_pc(m:M)(r v:Int):(setReg m r v).pc=m.pc:=by unfold setReg;by_cases e:r=0<;>simp[e]
theorem a_upper{B b mb:Nat}{m:M}{nx:Int}{vX:Nat->Value}{w:World}(h:PAt B b mb m nx vX w)(op rd q1 q2 im:Int)(hI:IB rd q1 q2 im)(hz:0<m.size)(hf:Fine m):
  Calls Tryz.prog 117 #[.pointer (some ⟨b,0,none⟩),.agg #[.int .i64 op,.int .i64 rd,.int .i64 q1,.int .i64 q2,.int .i32 im]] w fun e w'=>e=.returned (.tuple #[])/\PAt B b mb (setReg m rd (im%4294967296)) nx vX w'/\ref.Touch [b,mb] w w':=by
 have⟨rd0,rd1,q10,q11,q20,q21,i0,i1⟩:=hI
 obtain⟨lb,HH,HHt,HZ,HF,HSk,cpc,ra0,ra1,rb0,rb1,pc0,pc1,wi⟩:=pre_any h op rd q1 q2 im hz hf
 clear h
 clear hz hf
 go_enter Tryz.func117,Tryz.ntmps117
 go_wp2_with (first|(go_at_call 144;refine(Calls.mono (set_any (HHt.out _ tch) rd (im%4294967296) rd0 rd1) ?_);rintro e w9 ⟨rfl,hat,hto⟩;have HA:Hid (PAt B b mb (setReg m rd (im%4294967296)) nx vX w9):=hat;have htx:ref.Touch [b] (bx w op rd q1 q2 im) w9:=ref.Touch.trans (ref.Touch.mono (S:=[]) tch sP) hto;have hpx:w9.cell? ⟨b,33,none⟩=some (.int .u32 m.pc):=set_pc hat;have HT:Hid (ref.Touch [b] (bx w op rd q1 q2 im) w9):=htx;clear hat hto))
 exact Xp4
theorem a_upperFromHere{B b mb:Nat}{m:M}{nx:Int}{vX:Nat->Value}{w:World}(h:PAt B b mb m nx vX w)(op rd q1 q2 im:Int)(hI:IB rd q1 q2 im)(hz:0<m.size)(hf:Fine m):
  Calls Tryz.prog 118 #[.pointer (some ⟨b,0,none⟩),.agg #[.int .i64 op,.int .i64 rd,.int .i64 q1,.int .i64 q2,.int .i32 im]] w fun e w'=>e=.returned (.tuple #[])/\PAt B b mb (setReg m rd ((m.pc+im)%4294967296)) nx vX w'/\ref.Touch [b,mb] w w':=by
 have⟨rd0,rd1,q10,q11,q20,q21,i0,i1⟩:=hI
 obtain⟨lb,HH,HHt,HZ,HF,HSk,cpc,ra0,ra1,rb0,rb1,pc0,pc1,wi⟩:=pre_any h op rd q1 q2 im hz hf
 clear h
 have wp:IntKind.u32.wrap (m.pc+im%4294967296)=(m.pc+im)%4294967296:=by rw[IntKind.wrap_u32];omega
 clear hz hf
 go_enter Tryz.func118,Tryz.ntmps118
 go_wp2_with fail
 go_region_held3 (fun w'=>w'.cell? ⟨w.heap.size,0,none⟩=some (.int .i64 op)/\w'.cell? ⟨w.heap.size,1,none⟩=some (.int .i64 rd)/\w'.cell? ⟨w.heap.size,2,none⟩=some (.int .i64 q1)/\w'.cell? ⟨w.heap.size,3,none⟩=some (.int .i64 q2)/\w'.cell? ⟨w.heap.size,4,none⟩=some (.int .i32 im)/\w'.cell? ⟨b,33,none⟩=some (.int .u32 m.pc)) (exact HSk.out _ Xpc Xpd) (first|(go_at_call 144;refine(Calls.mono (set_any (HHt.out _ tch) rd ((m.pc+im)%4294967296) rd0 rd1) ?_);rintro e w9 ⟨rfl,hat,hto⟩;have HA:Hid (PAt B b mb (setReg m rd ((m.pc+im)%4294967296)) nx vX w9):=hat;have htx:ref.Touch [b] (bx w op rd q1 q2 im) w9:=ref.Touch.trans (ref.Touch.mono (S:=[]) tch sP) hto;have hpx:w9.cell? ⟨b,33,none⟩=some (.int .u32 m.pc):=set_pc hat;have HT:Hid (ref.Touch [b] (bx w op rd q1 q2 im) w9):=htx;clear hat hto))
 go_wp2_with fail
 exact Xp4
theorem a_reckon{B b mb:Nat}{m:M}{nx:Int}{vX:Nat->Value}{w:World}(h:PAt B b mb m nx vX w)(op rd q1 q2 im:Int)(hI:IB rd q1 q2 im)(hz:0<m.size)(hf:Fine m):
  Calls Tryz.prog 158 #[.pointer (some ⟨b,0,none⟩),.agg #[.int .i64 op,.int .i64 rd,.int .i64 q1,.int .i64 q2,.int .i32 im]] w fun e w'=>e=.returned (.tuple #[])/\PAt B b mb (setReg m rd (comp op (m.regs q1.toNat) (m.regs q2.toNat))) nx vX w'/\ref.Touch [b,mb] w w':=by
 have⟨rd0,rd1,q10,q11,q20,q21,i0,i1⟩:=hI
 obtain⟨lb,HH,HHt,HZ,HF,HSk,cpc,ra0,ra1,rb0,rb1,pc0,pc1,wi⟩:=pre_any h op rd q1 q2 im hz hf
 clear h
 clear hz hf
 go_enter Tryz.func158,Tryz.ntmps158
 go_wp2_with fail
 go_region_held3 (fun w'=>w'.cell? ⟨w.heap.size,0,none⟩=some (.int .i64 op)/\w'.cell? ⟨w.heap.size,1,none⟩=some (.int .i64 rd)/\w'.cell? ⟨w.heap.size,2,none⟩=some (.int .i64 q1)/\w'.cell? ⟨w.heap.size,3,none⟩=some (.int .i64 q2)/\w'.cell? ⟨w.heap.size,4,none⟩=some (.int .i32 im)/\w'.cell? ⟨b,33,none⟩=some (.int .u32 m.pc)) (exact HSk.out _ Xpc Xpd) (first|(go_at_call 146;refine(Calls.mono (first_any (HHt.out _ tch) op rd q1 q2 im hI HZ.out) ?_);rintro e w' ⟨rfl,ht'⟩;have htx:ref.Touch [] (bx w op rd q1 q2 im) w':=(ref.Touch.trans tch ht');have hpx:w'.cell? ⟨b,33,none⟩=some (.int .u32 m.pc):=(HHt.out _ htx).cells 33 dC dC;clear ht')|(go_at_call 148;refine(Calls.mono (second_any (HHt.out _ tch) op rd q1 q2 im hI HZ.out) ?_);rintro e w' ⟨rfl,ht'⟩;have htx:ref.Touch [] (bx w op rd q1 q2 im) w':=(ref.Touch.trans tch ht');have hpx:w'.cell? ⟨b,33,none⟩=some (.int .u32 m.pc):=(HHt.out _ htx).cells 33 dC dC;clear ht')|(go_at_call 41;refine(Calls.mono (computes.res_any op (m.regs q1.toNat) (m.regs q2.toNat) ra0 ra1 rb0 rb1 _) ?_);rintro e w' ⟨rfl,hw'⟩;subst w')|(go_at_call 144;refine(Calls.mono (set_any (HHt.out _ tch) rd (comp op (m.regs q1.toNat) (m.regs q2.toNat)) rd0 rd1) ?_);rintro e w9 ⟨rfl,hat,hto⟩;have HA:Hid (PAt B b mb (setReg m rd (comp op (m.regs q1.toNat) (m.regs q2.toNat))) nx vX w9):=hat;have htx:ref.Touch [b] (bx w op rd q1 q2 im) w9:=ref.Touch.trans (ref.Touch.mono (S:=[]) tch sP) hto;have hpx:w9.cell? ⟨b,33,none⟩=some (.int .u32 m.pc):=set_pc hat;have HT:Hid (ref.Touch [b] (bx w op rd q1 q2 im) w9):=htx;clear hat hto))
 go_wp2_with fail
 exact Xp4
theorem a_reckonImmediate{B b mb:Nat}{m:M}{nx:Int}{vX:Nat->Value}{w:World}(h:PAt B b mb m nx vX w)(op rd q1 q2 im:Int)(hI:IB rd q1 q2 im)(hz:0<m.size)(hf:Fine m):
  Calls Tryz.prog 157 #[.pointer (some ⟨b,0,none⟩),.agg #[.int .i64 op,.int .i64 rd,.int .i64 q1,.int .i64 q2,.int .i32 im]] w fun e w'=>e=.returned (.tuple #[])/\PAt B b mb (setReg m rd (comp op (m.regs q1.toNat) (im%4294967296))) nx vX w'/\ref.Touch [b,mb] w w':=by
 have⟨rd0,rd1,q10,q11,q20,q21,i0,i1⟩:=hI
 obtain⟨lb,HH,HHt,HZ,HF,HSk,cpc,ra0,ra1,rb0,rb1,pc0,pc1,wi⟩:=pre_any h op rd q1 q2 im hz hf
 clear h
 clear hz hf
 go_enter Tryz.func157,Tryz.ntmps157
 go_wp2_with fail
 go_region_held3 (fun w'=>w'.cell? ⟨w.heap.size,0,none⟩=some (.int .i64 op)/\w'.cell? ⟨w.heap.size,1,none⟩=some (.int .i64 rd)/\w'.cell? ⟨w.heap.size,2,none⟩=some (.int .i64 q1)/\w'.cell? ⟨w.heap.size,3,none⟩=some (.int .i64 q2)/\w'.cell? ⟨w.heap.size,4,none⟩=some (.int .i32 im)/\w'.cell? ⟨b,33,none⟩=some (.int .u32 m.pc)) (exact HSk.out _ Xpc Xpd) (first|(go_at_call 146;refine(Calls.mono (first_any (HHt.out _ tch) op rd q1 q2 im hI HZ.out) ?_);rintro e w' ⟨rfl,ht'⟩;have htx:ref.Touch [] (bx w op rd q1 q2 im) w':=(ref.Touch.trans tch ht');have hpx:w'.cell? ⟨b,33,none⟩=some (.int .u32 m.pc):=(HHt.out _ htx).cells 33 dC dC;clear ht')|(go_at_call 41;refine(Calls.mono (computes.res_any op (m.regs q1.toNat) (im%4294967296) ra0 ra1 oM oM _) ?_);rintro e w' ⟨rfl,hw'⟩;subst w')|(go_at_call 144;refine(Calls.mono (set_any (HHt.out _ tch) rd (comp op (m.regs q1.toNat) (im%4294967296)) rd0 rd1) ?_);rintro e w9 ⟨rfl,hat,hto⟩;have HA:Hid (PAt B b mb (setReg m rd (comp op (m.regs q1.toNat) (im%4294967296))) nx vX w9):=hat;have htx:ref.Touch [b] (bx w op rd q1 q2 im) w9:=ref.Touch.trans (ref.Touch.mono (S:=[]) tch sP) hto;have hpx:w9.cell? ⟨b,33,none⟩=some (.int .u32 m.pc):=set_pc hat;have HT:Hid (ref.Touch [b] (bx w op rd q1 q2 im) w9):=htx;clear hat hto))
 go_wp2_with fail
 exact Xp4
theorem jal_n{B b mb:Nat}{m:M}{nx:Int}{vX:Nat->Value}{w:World}(h:PAt B b mb m nx vX w)(op rd q1 q2 im:Int)(hI:IB rd q1 q2 im)(hz:0<m.size)(hf:Fine m)(ht:¬((m.pc+im)%4294967296)%4=0):
  Calls Tryz.prog 119 #[.pointer (some ⟨b,0,none⟩),.agg #[.int .i64 op,.int .i64 rd,.int .i64 q1,.int .i64 q2,.int .i32 im]] w fun e w'=>e=.panicked (trapV 3)/\ref.Touch [] w w':=by
 have⟨rd0,rd1,q10,q11,q20,q21,i0,i1⟩:=hI
 obtain⟨lb,HH,HHt,HZ,HF,HSk,cpc,ra0,ra1,rb0,rb1,pc0,pc1,wi⟩:=pre_any h op rd q1 q2 im hz hf
 clear h
 have wp:IntKind.u32.wrap (m.pc+im%4294967296)=(m.pc+im)%4294967296:=by rw[IntKind.wrap_u32];omega
 clear hz hf
 go_enter Tryz.func119,Tryz.ntmps119
 go_wp2_with fail
 refine rgh HSk cpc (fun hHeld=> ?_)
 refine tkk 0 4 ?_
 refine tkk 1 5 ?_
 refine tkk 2 6 ?_
 refine tkk 3 7 ?_
 refine tkk 4 8 ?_
 refine tkk 5 9 ?_
 refine tkk 6 10 ?_
 refine tkk 7 11 ?_
 refine tkk 8 12 ?_
 try go_frame
 exact Xp5
theorem jal_y{B b mb:Nat}{m:M}{nx:Int}{vX:Nat->Value}{w:World}(h:PAt B b mb m nx vX w)(op rd q1 q2 im:Int)(hI:IB rd q1 q2 im)(hz:0<m.size)(hf:Fine m)(ht:((m.pc+im)%4294967296)%4=0):
  Calls Tryz.prog 119 #[.pointer (some ⟨b,0,none⟩),.agg #[.int .i64 op,.int .i64 rd,.int .i64 q1,.int .i64 q2,.int .i32 im]] w fun e w'=>e=.returned (.tuple #[])/\PAt B b mb (setReg m rd ((m.pc+4)%4294967296)) ((m.pc+im)%4294967296) vX w'/\ref.Touch [b,mb] w w':=by
 have⟨rd0,rd1,q10,q11,q20,q21,i0,i1⟩:=hI
 obtain⟨lb,HH,HHt,HZ,HF,HSk,cpc,ra0,ra1,rb0,rb1,pc0,pc1,wi⟩:=pre_any h op rd q1 q2 im hz hf
 clear h
 have wp:IntKind.u32.wrap (m.pc+im%4294967296)=(m.pc+im)%4294967296:=by rw[IntKind.wrap_u32];omega
 have wp4:IntKind.u32.wrap (m.pc+4)=(m.pc+4)%4294967296:=by rw[IntKind.wrap_u32]
 clear hz hf
 go_enter Tryz.func119,Tryz.ntmps119
 go_wp2_with fail
 refine rgh HSk cpc (fun hHeld=> ?_)
 refine tkk 0 4 ?_
 refine tkk 1 5 ?_
 refine tkk 2 6 ?_
 refine tkk 3 7 ?_
 refine tkk 4 8 ?_
 refine tkk 5 9 ?_
 refine tkk 6 10 ?_
 refine tkk 7 11 ?_
 refine tkk 8 12 ?_
 try go_frame
 refine rdy 9 (fun K hK=> ?_)
 go_simp
 refine(Calls.mono (jump_y (HHt.out _ tch) ((m.pc+im)%4294967296) oM oM ht) ?_)
 rintro e wj ⟨rfl,hat,hto⟩
 have HJ:Hid (PAt B b mb m ((m.pc+im)%4294967296) vX wj):=hat
 have tj:ref.Touch [b] (bx w op rd q1 q2 im) wj:=ref.Touch.trans (ref.Touch.mono (S:=[]) tch sP) hto
 have pj:wj.cell? ⟨b,33,none⟩=some (.int .u32 m.pc):=hat.cells 33 dC dC
 have HJt:Hid (∀w',ref.Touch [] wj w'->PAt B b mb m ((m.pc+im)%4294967296) vX w'):=fun w' t=>HJ.out.other t sP sP HZ.out
 clear hat hto
 refine hK.out _ _ (HSk.out _ tj pj) (fun hHeld=> ?_)
 clear hK K
 try go_frame
 refine wpAnyH_done kR ?_ _
 go_wp2_with fail
 refine wp_region_held_drew (S:=(sbx w b m op rd q1 q2 im)) kR (HSk.out _ tj.drew pj) (fun hHeld=> ?_)
 refine tkk 0 14 ?_
 refine tkk 1 15 ?_
 refine tkk 2 16 ?_
 refine tkk 3 17 ?_
 refine tkk 4 18 ?_
 refine tkk 5 19 ?_
 refine tkk 6 20 ?_
 refine tkk 7 21 ?_
 try go_frame
 refine rdy 8 (fun K hK=> ?_)
 go_simp
 refine(Calls.mono (set_any (HJt.out _ tch) rd ((m.pc+4)%4294967296) rd0 rd1) ?_)
 rintro e w9 ⟨rfl,hat,hto⟩
 have HA:Hid (PAt B b mb (setReg m rd ((m.pc+4)%4294967296)) ((m.pc+im)%4294967296) vX w9):=hat
 exact Xp3
theorem jalr_n{B b mb:Nat}{m:M}{nx:Int}{vX:Nat->Value}{w:World}(h:PAt B b mb m nx vX w)(op rd q1 q2 im:Int)(hI:IB rd q1 q2 im)(hz:0<m.size)(hf:Fine m)(ht:¬(ref.jt (m.regs q1.toNat) im)%4=0):
  Calls Tryz.prog 120 #[.pointer (some ⟨b,0,none⟩),.agg #[.int .i64 op,.int .i64 rd,.int .i64 q1,.int .i64 q2,.int .i32 im]] w fun e w'=>e=.panicked (trapV 3)/\ref.Touch [] w w':=by
 have⟨rd0,rd1,q10,q11,q20,q21,i0,i1⟩:=hI
 obtain⟨lb,HH,HHt,HZ,HF,HSk,cpc,ra0,ra1,rb0,rb1,pc0,pc1,wi⟩:=pre_any h op rd q1 q2 im hz hf
 clear h
 have wa:IntKind.u32.wrap (m.regs q1.toNat+im%4294967296)=((m.regs q1.toNat+im)%4294967296):=by rw[IntKind.wrap_u32];omega
 have oj:=ref.jt_eq (m.regs q1.toNat) im
 have ob0:=(ref.jt_bd (m.regs q1.toNat) im).1
 have ob1:=(ref.jt_bd (m.regs q1.toNat) im).2
 clear hz hf
 go_enter Tryz.func120,Tryz.ntmps120
 go_wp2_with fail
 refine rgh HSk cpc (fun hHeld=> ?_)
 refine tkk 0 4 ?_
 refine tkk 1 5 ?_
 refine tkk 2 6 ?_
 refine tkk 4 8 ?_
 refine tkk 5 9 ?_
 refine tkk 6 10 ?_
 try go_frame
 refine rdy 3 (fun K hK=> ?_)
 go_simp
 refine(Calls.mono (first_any (HHt.out _ tch) op rd q1 q2 im hI HZ.out) ?_)
 rintro e w1 ⟨rfl,ht'⟩
 obtain⟨t1,p1⟩:=tpp HHt ht'
 clear ht'
 refine hK.out _ _ (HSk.out _ (t1.mono sP) p1) (fun hHeld=> ?_)
 clear hK K
 try go_frame
 refine tkk 7 11 ?_
 refine tkk 8 12 ?_
 try go_frame
 refine rdy 9 (fun K hK=> ?_)
 go_simp
 refine(Calls.mono (jump_n b (ref.jt (m.regs q1.toNat) im) oM oM ht _) ?_)
 rintro e w9 ⟨rfl,hw9⟩
 subst w9
 exact⟨rfl,rfl,tcb⟩
theorem jalr_y{B b mb:Nat}{m:M}{nx:Int}{vX:Nat->Value}{w:World}(h:PAt B b mb m nx vX w)(op rd q1 q2 im:Int)(hI:IB rd q1 q2 im)(hz:0<m.size)(hf:Fine m)(ht:(ref.jt (m.regs q1.toNat) im)%4=0):
  Calls Tryz.prog 120 #[.pointer (some ⟨b,0,none⟩),.agg #[.int .i64 op,.int .i64 rd,.int .i64 q1,.int .i64 q2,.int .i32 im]] w fun e w'=>e=.returned (.tuple #[])/\PAt B b mb (setReg m rd ((m.pc+4)%4294967296)) (ref.jt (m.regs q1.toNat) im) vX w'/\ref.Touch [b,mb] w w':=by
 have⟨rd0,rd1,q10,q11,q20,q21,i0,i1⟩:=hI
 obtain⟨lb,HH,HHt,HZ,HF,HSk,cpc,ra0,ra1,rb0,rb1,pc0,pc1,wi⟩:=pre_any h op rd q1 q2 im hz hf
 clear h
 have wa:IntKind.u32.wrap (m.regs q1.toNat+im%4294967296)=((m.regs q1.toNat+im)%4294967296):=by rw[IntKind.wrap_u32];omega
 have oj:=ref.jt_eq (m.regs q1.toNat) im
 have ob0:=(ref.jt_bd (m.regs q1.toNat) im).1
 have ob1:=(ref.jt_bd (m.regs q1.toNat) im).2
 have wp4:IntKind.u32.wrap (m.pc+4)=(m.pc+4)%4294967296:=by rw[IntKind.wrap_u32]
 clear hz hf
 go_enter Tryz.func120,Tryz.ntmps120
 go_wp2_with fail
 refine rgh HSk cpc (fun hHeld=> ?_)
 refine tkk 0 4 ?_
 refine tkk 1 5 ?_
 refine tkk 2 6 ?_
 refine tkk 4 8 ?_
 refine tkk 5 9 ?_
 refine tkk 6 10 ?_
 try go_frame
 refine rdy 3 (fun K hK=> ?_)
 go_simp
 refine(Calls.mono (first_any (HHt.out _ tch) op rd q1 q2 im hI HZ.out) ?_)
 rintro e w1 ⟨rfl,ht'⟩
 obtain⟨t1,p1⟩:=tpp HHt ht'
 clear ht'
 refine hK.out _ _ (HSk.out _ (t1.mono sP) p1) (fun hHeld=> ?_)
 clear hK K
 try go_frame
 refine tkk 7 11 ?_
 refine tkk 8 12 ?_
 try go_frame
 refine rdy 9 (fun K hK=> ?_)
 go_simp
 refine(Calls.mono (jump_y (HHt.out _ tch) (ref.jt (m.regs q1.toNat) im) oM oM ht) ?_)
 rintro e wj ⟨rfl,hat,hto⟩
 have HJ:Hid (PAt B b mb m (ref.jt (m.regs q1.toNat) im) vX wj):=hat
 have tj:ref.Touch [b] (bx w op rd q1 q2 im) wj:=ref.Touch.trans (ref.Touch.mono (S:=[]) tch sP) hto
 have pj:wj.cell? ⟨b,33,none⟩=some (.int .u32 m.pc):=hat.cells 33 dC dC
 have HJt:Hid (∀w',ref.Touch [] wj w'->PAt B b mb m (ref.jt (m.regs q1.toNat) im) vX w'):=fun w' t=>HJ.out.other t sP sP HZ.out
 clear hat hto
 refine hK.out _ _ (HSk.out _ tj pj) (fun hHeld=> ?_)
 clear hK K
 try go_frame
 refine wpAnyH_done kR ?_ _
 go_wp2_with fail
 refine wp_region_held_drew (S:=(sbx w b m op rd q1 q2 im)) kR (HSk.out _ tj.drew pj) (fun hHeld=> ?_)
 refine tkk 0 14 ?_
 refine tkk 1 15 ?_
 refine tkk 2 16 ?_
 refine tkk 3 17 ?_
 refine tkk 4 18 ?_
 refine tkk 5 19 ?_
 refine tkk 6 20 ?_
 refine tkk 7 21 ?_
 try go_frame
 refine rdy 8 (fun K hK=> ?_)
 go_simp
 refine(Calls.mono (set_any (HJt.out _ tch) rd ((m.pc+4)%4294967296) rd0 rd1) ?_)
 rintro e w9 ⟨rfl,hat,hto⟩
 have HA:Hid (PAt B b mb (setReg m rd ((m.pc+4)%4294967296)) (ref.jt (m.regs q1.toNat) im) vX w9):=hat
 exact Xp3
theorem br_no{B b mb:Nat}{m:M}{nx:Int}{vX:Nat->Value}{w:World}(h:PAt B b mb m nx vX w)(op rd q1 q2 im:Int)(hI:IB rd q1 q2 im)(hz:0<m.size)(hf:Fine m):
  Calls Tryz.prog 147 #[.pointer (some ⟨b,0,none⟩),.agg #[.int .i64 op,.int .i64 rd,.int .i64 q1,.int .i64 q2,.int .i32 im],.bool false] w fun e w'=>e=.returned (.tuple #[])/\PAt B b mb m nx vX w'/\ref.Touch [b,mb] w w':=by
 have⟨rd0,rd1,q10,q11,q20,q21,i0,i1⟩:=hI
 obtain⟨lb,HH,HHt,HZ,HF,HSk,cpc,ra0,ra1,rb0,rb1,pc0,pc1,wi⟩:=pre_any h op rd q1 q2 im hz hf
 clear h
 clear hz hf
 go_enter Tryz.func147,Tryz.ntmps147
 go_wp2_with fail
 go_end0
 exact⟨rfl,HH.out,(ref.Touch.refl _ _).alloc _⟩
theorem br_n{B b mb:Nat}{m:M}{nx:Int}{vX:Nat->Value}{w:World}(h:PAt B b mb m nx vX w)(op rd q1 q2 im:Int)(hI:IB rd q1 q2 im)(hz:0<m.size)(hf:Fine m)(ht:¬((m.pc+im)%4294967296)%4=0):
  Calls Tryz.prog 147 #[.pointer (some ⟨b,0,none⟩),.agg #[.int .i64 op,.int .i64 rd,.int .i64 q1,.int .i64 q2,.int .i32 im],.bool true] w fun e w'=>e=.panicked (trapV 3)/\ref.Touch [] w w':=by
 have⟨rd0,rd1,q10,q11,q20,q21,i0,i1⟩:=hI
 obtain⟨lb,HH,HHt,HZ,HF,HSk,cpc,ra0,ra1,rb0,rb1,pc0,pc1,wi⟩:=pre_any h op rd q1 q2 im hz hf
 clear h
 have wp:IntKind.u32.wrap (m.pc+im%4294967296)=(m.pc+im)%4294967296:=by rw[IntKind.wrap_u32];omega
 clear hz hf
 go_enter Tryz.func147,Tryz.ntmps147
 go_wp2_with fail
 refine rgh HSk cpc (fun hHeld=> ?_)
 refine tkk 0 7 ?_
 refine tkk 1 8 ?_
 refine tkk 2 9 ?_
 refine tkk 3 10 ?_
 refine tkk 4 11 ?_
 refine tkk 5 12 ?_
 refine tkk 6 13 ?_
 refine tkk 7 14 ?_
 refine tkk 8 15 ?_
 try go_frame
 exact Xp5
theorem br_y{B b mb:Nat}{m:M}{nx:Int}{vX:Nat->Value}{w:World}(h:PAt B b mb m nx vX w)(op rd q1 q2 im:Int)(hI:IB rd q1 q2 im)(hz:0<m.size)(hf:Fine m)(ht:((m.pc+im)%4294967296)%4=0):
  Calls Tryz.prog 147 #[.pointer (some ⟨b,0,none⟩),.agg #[.int .i64 op,.int .i64 rd,.int .i64 q1,.int .i64 q2,.int .i32 im],.bool true] w fun e w'=>e=.returned (.tuple #[])/\PAt B b mb m ((m.pc+im)%4294967296) vX w'/\ref.Touch [b,mb] w w':=by
 have⟨rd0,rd1,q10,q11,q20,q21,i0,i1⟩:=hI
 obtain⟨lb,HH,HHt,HZ,HF,HSk,cpc,ra0,ra1,rb0,rb1,pc0,pc1,wi⟩:=pre_any h op rd q1 q2 im hz hf
 clear h
 have wp:IntKind.u32.wrap (m.pc+im%4294967296)=(m.pc+im)%4294967296:=by rw[IntKind.wrap_u32];omega
 clear hz hf
 go_enter Tryz.func147,Tryz.ntmps147
 go_wp2_with fail
 refine rgh HSk cpc (fun hHeld=> ?_)
 refine tkk 0 7 ?_
 refine tkk 1 8 ?_
 refine tkk 2 9 ?_
 refine tkk 3 10 ?_
 refine tkk 4 11 ?_
 refine tkk 5 12 ?_
 refine tkk 6 13 ?_
 refine tkk 7 14 ?_
 refine tkk 8 15 ?_
 try go_frame
 refine rdy 9 (fun K hK=> ?_)
 go_simp
 refine(Calls.mono (jump_y (HHt.out _ tch) ((m.pc+im)%4294967296) oM oM ht) ?_)
 rintro e wj ⟨rfl,hat,hto⟩
 have HJ:Hid (PAt B b mb m ((m.pc+im)%4294967296) vX wj):=hat
 have tj:ref.Touch [b] (bx w op rd q1 q2 im) wj:=ref.Touch.trans (ref.Touch.mono (S:=[]) tch sP) hto
 have pj:wj.cell? ⟨b,33,none⟩=some (.int .u32 m.pc):=hat.cells 33 dC dC
 have HJt:Hid (∀w',ref.Touch [] wj w'->PAt B b mb m ((m.pc+im)%4294967296) vX w'):=fun w' t=>HJ.out.other t sP sP HZ.out
 clear hat hto
 refine hK.out _ _ (HSk.out _ tj pj) (fun hHeld=> ?_)
 clear hK K
 try go_frame
 refine wpAnyH_done kR ?_ _
 go_wp2_with fail
 go_end0
 exact⟨rfl,HJ.out,(((ref.Touch.refl _ _).alloc _).trans tj).mono sP⟩
theorem less_any{B b mb:Nat}{m:M}{nx:Int}{vX:Nat->Value}{w:World}(h:PAt B b mb m nx vX w)(op rd q1 q2 im:Int)(hI:IB rd q1 q2 im)(hz:0<m.size)(hf:Fine m):
  Calls Tryz.prog 149 #[.pointer (some ⟨b,0,none⟩),.agg #[.int .i64 op,.int .i64 rd,.int .i64 q1,.int .i64 q2,.int .i32 im]] w fun e w'=>e=.returned (.bool (decide (wrap32 (m.regs q1.toNat)<wrap32 (m.regs q2.toNat))))/\ref.Touch [] w w':=by
 have⟨rd0,rd1,q10,q11,q20,q21,i0,i1⟩:=hI
 obtain⟨lb,HH,HHt,HZ,HF,HSk,cpc,ra0,ra1,rb0,rb1,pc0,pc1,wi⟩:=pre_any h op rd q1 q2 im hz hf
 clear h
 have ws1:IntKind.i32.wrap (m.regs q1.toNat)=wrap32 (m.regs q1.toNat):=by simp[wrap32,IntKind.wrap_i32]
 have ws2:IntKind.i32.wrap (m.regs q2.toNat)=wrap32 (m.regs q2.toNat):=by simp[wrap32,IntKind.wrap_i32]
 clear hz hf
 go_enter Tryz.func149,Tryz.ntmps149
 go_wp2_with fail
 refine rgh HSk cpc (fun hHeld=> ?_)
 refine tkk 0 5 ?_
 refine tkk 1 6 ?_
 refine tkk 4 9 ?_
 refine tkk 5 10 ?_
 try go_frame
 refine rdy 2 (fun K hK=> ?_)
 go_simp
 refine(Calls.mono (first_any (HHt.out _ tch) op rd q1 q2 im hI HZ.out) ?_)
 rintro e w1 ⟨rfl,ht'⟩
 obtain⟨t1,p1⟩:=tpp HHt ht'
 clear ht'
 refine hK.out _ _ (HSk.out _ (t1.mono sP) p1) (fun hHeld=> ?_)
 clear hK K
 try go_frame
 refine tkk 3 8 ?_
 try go_frame
 refine rdy 6 (fun K hK=> ?_)
 go_simp
 refine(Calls.mono (second_any (HHt.out _ tch) op rd q1 q2 im hI HZ.out) ?_)
 rintro e w2 ⟨rfl,ht'⟩
 obtain⟨t2,p2⟩:=tpp HHt ht'
 clear ht'
 refine hK.out _ _ (HSk.out _ (t2.mono sP) p2) (fun hHeld=> ?_)
 clear hK K
 try go_frame
 refine tkk 7 12 ?_
 refine tkk 8 13 ?_
 refine tkk 9 4 ?_
 try go_frame
 exact Xp9
theorem lessUnsigned_any{B b mb:Nat}{m:M}{nx:Int}{vX:Nat->Value}{w:World}(h:PAt B b mb m nx vX w)(op rd q1 q2 im:Int)(hI:IB rd q1 q2 im)(hz:0<m.size)(hf:Fine m):
  Calls Tryz.prog 150 #[.pointer (some ⟨b,0,none⟩),.agg #[.int .i64 op,.int .i64 rd,.int .i64 q1,.int .i64 q2,.int .i32 im]] w fun e w'=>e=.returned (.bool (decide (m.regs q1.toNat<m.regs q2.toNat)))/\ref.Touch [] w w':=by
 have⟨rd0,rd1,q10,q11,q20,q21,i0,i1⟩:=hI
 obtain⟨lb,HH,HHt,HZ,HF,HSk,cpc,ra0,ra1,rb0,rb1,pc0,pc1,wi⟩:=pre_any h op rd q1 q2 im hz hf
 clear h
 clear hz hf
 go_enter Tryz.func150,Tryz.ntmps150
 go_wp2_with fail
 refine rgh HSk cpc (fun hHeld=> ?_)
 refine tkk 0 5 ?_
 refine tkk 1 6 ?_
 refine tkk 3 8 ?_
 refine tkk 4 9 ?_
 try go_frame
 refine rdy 2 (fun K hK=> ?_)
 go_simp
 refine(Calls.mono (first_any (HHt.out _ tch) op rd q1 q2 im hI HZ.out) ?_)
 rintro e w1 ⟨rfl,ht'⟩
 obtain⟨t1,p1⟩:=tpp HHt ht'
 clear ht'
 refine hK.out _ _ (HSk.out _ (t1.mono sP) p1) (fun hHeld=> ?_)
 clear hK K
 try go_frame
 refine rdy 5 (fun K hK=> ?_)
 go_simp
 refine(Calls.mono (second_any (HHt.out _ tch) op rd q1 q2 im hI HZ.out) ?_)
 rintro e w2 ⟨rfl,ht'⟩
 obtain⟨t2,p2⟩:=tpp HHt ht'
 clear ht'
 refine hK.out _ _ (HSk.out _ (t2.mono sP) p2) (fun hHeld=> ?_)
 clear hK K
 try go_frame
 refine tkk 6 11 ?_
 refine tkk 7 4 ?_
 try go_frame
 exact Xp9
end prog
end Go.Proofs.YtjikimpejlmdiaaGreatDoor

import Derived.Test.YtjikimpejlmdiaaGreatDoorZGk
import Derived.Test.YtjikimpejlmdiaaGreatDoorZGg
import Derived.Test.YtjikimpejlmdiaaGreatDoorZGd
set_option maxHeartbeats 4000000
set_option linter.unusedVariables false
set_option linter.unusedSimpArgs false
set_option maxRecDepth 10000
namespace Go.Proofs.YtjikimpejlmdiaaGreatDoor
theorem XL0{p:Prop}(h:p:=by rw[<-hw9];exact World.rangeAt_setCells_same _ _ _ _ (there_new w7 _ _)):p:=h
theorem XL1{p:Prop}(h:p:=by rw[<-hw9];exact touch_newP _ _ _ _ tcb sP):p:=h
theorem XL2{p:Prop}(h:p:=by rw[<-hk];rfl):p:=h
namespace prog
open ChangeShapes WideShapes ChangeAt RowKit nums dnums mach
attribute [local go_sem ↓] Go.wp_at_zero Go.wp_at_succ
theorem touch_cell{u v:World}(h:ref.Touch [] u v){a:Addr}(ha:u.heap.size<=a.block)(x:Value):ref.Touch [] u (v.setCell a x):=
 ⟨h.os,h.tape,h.output,by simpa [World.setCell]using h.size,fun k hk hn=>(Below.heap_setCell v a x k oM).trans (h.block k hk hn)⟩
theorem ready_no{B b mb:Nat}{m:M}{nx:Int}{vX:Nat->Value}{w:World}(h:PAt B b mb m nx vX w)(hz:0<m.size)(hf:Fine m)(k:Nat)(hk4:k+4<=m.size)(hT:∀w',ref.Touch [] w w'->decodes.Tabs w' (ld m.mem k 4))(hn:opn (ld m.mem k 4)=-1):
  Calls Tryz.prog 75 #[.pointer (some ⟨b,0,none⟩),.int .u32 k] w fun e w'=>e=.returned (.tuple #[.agg #[.nilFunc,.int .i64 0,.int .i64 0,.int .i64 0,.int .i64 0,.int .i32 0],.bool false])/\ref.Touch [] w w':=by
 have lb:b<w.heap.size:=World.block_lt_of_cell? _ _ h.data
 have HH:Hid (PAt B b mb m nx vX (w.alloc (.cells #[.nilFunc,.int .i64 0,.int .i64 0,.int .i64 0,.int .i64 0,.int .i32 0] 96))):=h.other ((ref.Touch.refl [] _).alloc _) sP sP hz
 have HHt:Hid (∀w',ref.Touch [] (w.alloc (.cells #[.nilFunc,.int .i64 0,.int .i64 0,.int .i64 0,.int .i64 0,.int .i32 0] 96)) w'->PAt B b mb m nx vX w'):=fun w' t=>HH.out.other t sP sP hz
 have HF:Hid (Fine m):=hf
 have k0:(0:Int)<=(k:Int):=by omega
 have x0:0<=ld m.mem k 4:=(ld4 m.mem hf.mem k).1
 have x1:ld m.mem k 4<=4294967295:=(ld4 m.mem hf.mem k).2
 have HTb:Hid (∀w',ref.Touch [] w w'->decodes.Tabs w' (ld m.mem k 4)):=hT
 clear h hz hf
 go_enter Tryz.func75,Tryz.ntmps75
 go_wp2_with (first|(go_at_call 102;refine(Calls.mono (read_4 (HHt.out _ tch) k hk4 HF.out.size HF.out.mem) ?_);rintro e w8 ⟨rfl,ht8⟩;have t8:ref.Touch [] (w.alloc (.cells #[.nilFunc,.int .i64 0,.int .i64 0,.int .i64 0,.int .i64 0,.int .i32 0] 96)) w8:=ref.Touch.trans tch ht8;clear ht8)|(go_at_call 40;refine(Calls.mono (decodes.word_any (ld m.mem k 4) x0 x1 _ (HTb.out _ (ref.Touch.trans ((ref.Touch.refl _ _).alloc _) t8))) ?_);rintro e w7 ⟨rfl,hbel⟩;have t7:ref.Touch [] (w.alloc (.cells #[.nilFunc,.int .i64 0,.int .i64 0,.int .i64 0,.int .i64 0,.int .i32 0] 96)) w7:=ref.Touch.trans t8 (ref.Touch.of_below hbel);rw[dec_no _ hn];unfold no;have HTH:Hid (w7.there w.heap.size 0 6):=there_t (there_new w _ _) dC t7 sP;have tw:ref.Touch [] w w7:=ref.Touch.trans ((ref.Touch.refl _ _).alloc _) t7;clear hbel)|(refine wpList_store_mid rF 96 (.tmp 4) (.tmp 17) rF w.heap.size 0 #[Value.nilFunc,Value.int .i64 0,Value.int .i64 0,Value.int .i64 0,Value.int .i64 0,Value.int .i32 0] rF rF (World.there_alloc HTH.out _) info_st oC ?_;generalize hw9:World.setCells _ w.heap.size 0 (Array.toList #[Value.nilFunc,Value.int .i64 0,Value.int .i64 0,Value.int .i64 0,Value.int .i64 0,Value.int .i32 0])=w9;have R9:Hid (w9.rangeAt w.heap.size 0 (Array.toList #[Value.nilFunc,Value.int .i64 0,Value.int .i64 0,Value.int .i64 0,Value.int .i64 0,Value.int .i32 0])):=(by rw[<-hw9];exact World.rangeAt_setCells_same _ _ _ _ (World.there_alloc HTH.out _));have T9:Hid (ref.Touch [] w w9):=XL1;clear hw9))
 refine bodyPost_ret (results_ct Tryz.results75 _ _ _ w.heap.size (Array.toList #[Value.nilFunc,Value.int .i64 0,Value.int .i64 0,Value.int .i64 0,Value.int .i64 0,Value.int .i32 0]) rF _ R9.out Tryz.underlying96 rfl info_st) rfl ?_
 exact⟨rfl,T9.out⟩
theorem ready_ok{B b mb:Nat}{m:M}{nx:Int}{vX:Nat->Value}{w:World}(h:PAt B b mb m nx vX w)(hz:0<m.size)(hf:Fine m)(k:Nat)(hk4:k+4<=m.size)(hT:∀w',ref.Touch [] w w'->decodes.Tabs w' (ld m.mem k 4))(hn:¬opn (ld m.mem k 4)=-1)(KF:Nat)(hao:∀w,Calls Tryz.prog 103 #[.int .i64 (opn (ld m.mem k 4))] w fun e w'=>e=.returned (.func (.func KF) #[] #[])/\w'=w):
  Calls Tryz.prog 75 #[.pointer (some ⟨b,0,none⟩),.int .u32 k] w fun e w'=>e=.returned (.tuple #[.agg #[(.func (.func KF) #[] #[]),.int .i64 (opn (ld m.mem k 4)),.int .i64 (qRd (ld m.mem k 4)),.int .i64 (qR1 (ld m.mem k 4)),.int .i64 (qR2 (ld m.mem k 4)),.int .i32 (imm (ld m.mem k 4))],.bool true])/\ref.Touch [] w w':=by
 have lb:b<w.heap.size:=World.block_lt_of_cell? _ _ h.data
 have HH:Hid (PAt B b mb m nx vX (w.alloc (.cells #[.nilFunc,.int .i64 0,.int .i64 0,.int .i64 0,.int .i64 0,.int .i32 0] 96))):=h.other ((ref.Touch.refl [] _).alloc _) sP sP hz
 have HHt:Hid (∀w',ref.Touch [] (w.alloc (.cells #[.nilFunc,.int .i64 0,.int .i64 0,.int .i64 0,.int .i64 0,.int .i32 0] 96)) w'->PAt B b mb m nx vX w'):=fun w' t=>HH.out.other t sP sP hz
 have HF:Hid (Fine m):=hf
 have k0:(0:Int)<=(k:Int):=by omega
 have x0:0<=ld m.mem k 4:=(ld4 m.mem hf.mem k).1
 have x1:ld m.mem k 4<=4294967295:=(ld4 m.mem hf.mem k).2
 have HTb:Hid (∀w',ref.Touch [] w w'->decodes.Tabs w' (ld m.mem k 4)):=hT
 have HAO:Hid (∀w,Calls Tryz.prog 103 #[.int .i64 (opn (ld m.mem k 4))] w fun e w'=>e=.returned (.func (.func KF) #[] #[])/\w'=w):=hao
 clear h hz hf
 go_enter Tryz.func75,Tryz.ntmps75
 go_wp2_with (first|(go_at_call 102;refine(Calls.mono (read_4 (HHt.out _ tch) k hk4 HF.out.size HF.out.mem) ?_);rintro e w8 ⟨rfl,ht8⟩;have t8:ref.Touch [] (w.alloc (.cells #[.nilFunc,.int .i64 0,.int .i64 0,.int .i64 0,.int .i64 0,.int .i32 0] 96)) w8:=ref.Touch.trans tch ht8;clear ht8)|(go_at_call 40;refine(Calls.mono (decodes.word_any (ld m.mem k 4) x0 x1 _ (HTb.out _ (ref.Touch.trans ((ref.Touch.refl _ _).alloc _) t8))) ?_);rintro e w7 ⟨rfl,hbel⟩;have t7:ref.Touch [] (w.alloc (.cells #[.nilFunc,.int .i64 0,.int .i64 0,.int .i64 0,.int .i64 0,.int .i32 0] 96)) w7:=ref.Touch.trans t8 (ref.Touch.of_below hbel);rw[dec_raw _ hn];unfold ins;clear hbel))
 have l7:w.heap.size<w7.heap.size:=by have:=t7.size;simp at this;omega
 have c70:w7.cell? ⟨w.heap.size,0,none⟩=some (.nilFunc):=(t7.cell (p:=⟨w.heap.size,0,none⟩) sP sP).trans (World.cell?_alloc_at _ _ _ _ rfl)
 have f70:w7.frozen? ⟨w.heap.size,0,none⟩=false:=(t7.frozen (p:=⟨w.heap.size,0,none⟩) sP sP).trans (World.frozen?_alloc_at _ _ _ _ rfl)
 have c71:w7.cell? ⟨w.heap.size,1,none⟩=some (.int .i64 0):=(t7.cell (p:=⟨w.heap.size,1,none⟩) sP sP).trans (World.cell?_alloc_at _ _ _ _ rfl)
 have f71:w7.frozen? ⟨w.heap.size,1,none⟩=false:=(t7.frozen (p:=⟨w.heap.size,1,none⟩) sP sP).trans (World.frozen?_alloc_at _ _ _ _ rfl)
 have c72:w7.cell? ⟨w.heap.size,2,none⟩=some (.int .i64 0):=(t7.cell (p:=⟨w.heap.size,2,none⟩) sP sP).trans (World.cell?_alloc_at _ _ _ _ rfl)
 have f72:w7.frozen? ⟨w.heap.size,2,none⟩=false:=(t7.frozen (p:=⟨w.heap.size,2,none⟩) sP sP).trans (World.frozen?_alloc_at _ _ _ _ rfl)
 have c73:w7.cell? ⟨w.heap.size,3,none⟩=some (.int .i64 0):=(t7.cell (p:=⟨w.heap.size,3,none⟩) sP sP).trans (World.cell?_alloc_at _ _ _ _ rfl)
 have f73:w7.frozen? ⟨w.heap.size,3,none⟩=false:=(t7.frozen (p:=⟨w.heap.size,3,none⟩) sP sP).trans (World.frozen?_alloc_at _ _ _ _ rfl)
 have c74:w7.cell? ⟨w.heap.size,4,none⟩=some (.int .i64 0):=(t7.cell (p:=⟨w.heap.size,4,none⟩) sP sP).trans (World.cell?_alloc_at _ _ _ _ rfl)
 have f74:w7.frozen? ⟨w.heap.size,4,none⟩=false:=(t7.frozen (p:=⟨w.heap.size,4,none⟩) sP sP).trans (World.frozen?_alloc_at _ _ _ _ rfl)
 have c75:w7.cell? ⟨w.heap.size,5,none⟩=some (.int .i32 0):=(t7.cell (p:=⟨w.heap.size,5,none⟩) sP sP).trans (World.cell?_alloc_at _ _ _ _ rfl)
 have f75:w7.frozen? ⟨w.heap.size,5,none⟩=false:=(t7.frozen (p:=⟨w.heap.size,5,none⟩) sP sP).trans (World.frozen?_alloc_at _ _ _ _ rfl)
 have HS5:Hid (∀w',ref.Touch [w.heap.size] (w7.alloc (.cells #[.int .i64 (opn (ld m.mem k 4)),.int .i64 (qRd (ld m.mem k 4)),.int .i64 (qR1 (ld m.mem k 4)),.int .i64 (qR2 (ld m.mem k 4)),.int .i32 (imm (ld m.mem k 4))] 61)) w'->(fun w'=>w'.cell? ⟨w7.heap.size,0,none⟩=some (.int .i64 (opn (ld m.mem k 4)))/\w'.cell? ⟨w7.heap.size,1,none⟩=some (.int .i64 (qRd (ld m.mem k 4)))/\w'.cell? ⟨w7.heap.size,2,none⟩=some (.int .i64 (qR1 (ld m.mem k 4)))/\w'.cell? ⟨w7.heap.size,3,none⟩=some (.int .i64 (qR2 (ld m.mem k 4)))/\w'.cell? ⟨w7.heap.size,4,none⟩=some (.int .i32 (imm (ld m.mem k 4)))) w'):=fun w' t=>by
  have e:∀j,w'.cell? ⟨w7.heap.size,j,none⟩=(w7.alloc (.cells #[.int .i64 (opn (ld m.mem k 4)),.int .i64 (qRd (ld m.mem k 4)),.int .i64 (qR1 (ld m.mem k 4)),.int .i64 (qR2 (ld m.mem k 4)),.int .i32 (imm (ld m.mem k 4))] 61)).cell? ⟨w7.heap.size,j,none⟩:=fun j=>t.cell (p:=⟨w7.heap.size,j,none⟩) sP (by simp;omega)
  exact⟨(e 0).trans (World.cell?_alloc_at _ _ _ _ rfl),(e 1).trans (World.cell?_alloc_at _ _ _ _ rfl),(e 2).trans (World.cell?_alloc_at _ _ _ _ rfl),(e 3).trans (World.cell?_alloc_at _ _ _ _ rfl),(e 4).trans (World.cell?_alloc_at _ _ _ _ rfl)⟩
 have hst:(store ⟨w.heap.size,0,none⟩ (.func (.func KF) #[] #[])).run Tryz.prog (w7.alloc (.cells #[.int .i64 (opn (ld m.mem k 4)),.int .i64 (qRd (ld m.mem k 4)),.int .i64 (qR1 (ld m.mem k 4)),.int .i64 (qR2 (ld m.mem k 4)),.int .i32 (imm (ld m.mem k 4))] 61)).drew=.ok () ((w7.alloc (.cells #[.int .i64 (opn (ld m.mem k 4)),.int .i64 (qRd (ld m.mem k 4)),.int .i64 (qR1 (ld m.mem k 4)),.int .i64 (qR2 (ld m.mem k 4)),.int .i32 (imm (ld m.mem k 4))] 61)).drew.setCell ⟨w.heap.size,0,none⟩ (.func (.func KF) #[] #[])):=by
  have e1:(w7.alloc (.cells #[.int .i64 (opn (ld m.mem k 4)),.int .i64 (qRd (ld m.mem k 4)),.int .i64 (qR1 (ld m.mem k 4)),.int .i64 (qR2 (ld m.mem k 4)),.int .i32 (imm (ld m.mem k 4))] 61)).drew.cell? ⟨w.heap.size,0,none⟩=some .nilFunc:=(World.cell?_alloc_past _ _ _ l7).trans c70
  have e2:(w7.alloc (.cells #[.int .i64 (opn (ld m.mem k 4)),.int .i64 (qRd (ld m.mem k 4)),.int .i64 (qR1 (ld m.mem k 4)),.int .i64 (qR2 (ld m.mem k 4)),.int .i32 (imm (ld m.mem k 4))] 61)).drew.frozen? ⟨w.heap.size,0,none⟩=false:=(World.frozen?_alloc_past _ _ _ l7).trans f70
  rw[run_store Tryz.prog _ _ _ _ rfl]
  simp only[e1,e2]
  rfl
 have HT7:Hid (ref.Touch [] w (w7.alloc (.cells #[.int .i64 (opn (ld m.mem k 4)),.int .i64 (qRd (ld m.mem k 4)),.int .i64 (qR1 (ld m.mem k 4)),.int .i64 (qR2 (ld m.mem k 4)),.int .i32 (imm (ld m.mem k 4))] 61))):=ref.Touch.trans ((ref.Touch.refl _ _).alloc _) (t7.alloc _)
 refine wp_region_held_drew (S:=(fun w'=>w'.cell? ⟨w7.heap.size,0,none⟩=some (.int .i64 (opn (ld m.mem k 4)))/\w'.cell? ⟨w7.heap.size,1,none⟩=some (.int .i64 (qRd (ld m.mem k 4)))/\w'.cell? ⟨w7.heap.size,2,none⟩=some (.int .i64 (qR1 (ld m.mem k 4)))/\w'.cell? ⟨w7.heap.size,3,none⟩=some (.int .i64 (qR2 (ld m.mem k 4)))/\w'.cell? ⟨w7.heap.size,4,none⟩=some (.int .i32 (imm (ld m.mem k 4))))) kR (HS5.out _ (ref.Touch.refl _ _).drew) (fun hHeld=> ?_)
 refine tkk 0 18 ?_
 refine tkk 1 19 ?_
 refine tkk 3 21 ?_
 try go_frame
 refine rdy 2 (fun K hK=> ?_)
 go_simp
 refine(Calls.mono (HAO.out _) ?_)
 rintro e w6 ⟨rfl,hw6⟩
 subst w6
 refine hK.out _ _ (hHeld) (fun hHeld=> ?_)
 clear hK K
 try go_frame
 refine tkk 4 22 ?_
 try go_frame
 refine rdy 5 (fun K hK=> ?_)
 go_simp
 have hS9:(fun w'=>w'.cell? ⟨w7.heap.size,0,none⟩=some (.int .i64 (opn (ld m.mem k 4)))/\w'.cell? ⟨w7.heap.size,1,none⟩=some (.int .i64 (qRd (ld m.mem k 4)))/\w'.cell? ⟨w7.heap.size,2,none⟩=some (.int .i64 (qR1 (ld m.mem k 4)))/\w'.cell? ⟨w7.heap.size,3,none⟩=some (.int .i64 (qR2 (ld m.mem k 4)))/\w'.cell? ⟨w7.heap.size,4,none⟩=some (.int .i32 (imm (ld m.mem k 4)))) ((((((((w7.setCell ⟨w.heap.size,0,none⟩ ((.func (.func KF) #[] #[]))).setCell ⟨w.heap.size,1,none⟩ (.int .i64 (opn (ld m.mem k 4)))).setCell ⟨w.heap.size,2,none⟩ (.int .i64 (qRd (ld m.mem k 4)))).setCell ⟨w.heap.size,3,none⟩ (.int .i64 (qR1 (ld m.mem k 4)))).setCell ⟨w.heap.size,4,none⟩ (.int .i64 (qR2 (ld m.mem k 4)))).setCell ⟨w.heap.size,5,none⟩ (.int .i32 (imm (ld m.mem k 4)))).alloc (.cells #[.int .i64 (opn (ld m.mem k 4)),.int .i64 (qRd (ld m.mem k 4)),.int .i64 (qR1 (ld m.mem k 4)),.int .i64 (qR2 (ld m.mem k 4)),.int .i32 (imm (ld m.mem k 4))] 61)).drew):=by refine⟨?_, ?_, ?_, ?_, ?_⟩<;>go_simp
 have r90:((((((((w7.setCell ⟨w.heap.size,0,none⟩ ((.func (.func KF) #[] #[]))).setCell ⟨w.heap.size,1,none⟩ (.int .i64 (opn (ld m.mem k 4)))).setCell ⟨w.heap.size,2,none⟩ (.int .i64 (qRd (ld m.mem k 4)))).setCell ⟨w.heap.size,3,none⟩ (.int .i64 (qR1 (ld m.mem k 4)))).setCell ⟨w.heap.size,4,none⟩ (.int .i64 (qR2 (ld m.mem k 4)))).setCell ⟨w.heap.size,5,none⟩ (.int .i32 (imm (ld m.mem k 4)))).alloc (.cells #[.int .i64 (opn (ld m.mem k 4)),.int .i64 (qRd (ld m.mem k 4)),.int .i64 (qR1 (ld m.mem k 4)),.int .i64 (qR2 (ld m.mem k 4)),.int .i32 (imm (ld m.mem k 4))] 61)).drew).cell? ⟨w.heap.size,0,none⟩=some ((.func (.func KF) #[] #[])):=by go_simp
 have r91:((((((((w7.setCell ⟨w.heap.size,0,none⟩ ((.func (.func KF) #[] #[]))).setCell ⟨w.heap.size,1,none⟩ (.int .i64 (opn (ld m.mem k 4)))).setCell ⟨w.heap.size,2,none⟩ (.int .i64 (qRd (ld m.mem k 4)))).setCell ⟨w.heap.size,3,none⟩ (.int .i64 (qR1 (ld m.mem k 4)))).setCell ⟨w.heap.size,4,none⟩ (.int .i64 (qR2 (ld m.mem k 4)))).setCell ⟨w.heap.size,5,none⟩ (.int .i32 (imm (ld m.mem k 4)))).alloc (.cells #[.int .i64 (opn (ld m.mem k 4)),.int .i64 (qRd (ld m.mem k 4)),.int .i64 (qR1 (ld m.mem k 4)),.int .i64 (qR2 (ld m.mem k 4)),.int .i32 (imm (ld m.mem k 4))] 61)).drew).cell? ⟨w.heap.size,1,none⟩=some (.int .i64 (opn (ld m.mem k 4))):=by go_simp
 have r92:((((((((w7.setCell ⟨w.heap.size,0,none⟩ ((.func (.func KF) #[] #[]))).setCell ⟨w.heap.size,1,none⟩ (.int .i64 (opn (ld m.mem k 4)))).setCell ⟨w.heap.size,2,none⟩ (.int .i64 (qRd (ld m.mem k 4)))).setCell ⟨w.heap.size,3,none⟩ (.int .i64 (qR1 (ld m.mem k 4)))).setCell ⟨w.heap.size,4,none⟩ (.int .i64 (qR2 (ld m.mem k 4)))).setCell ⟨w.heap.size,5,none⟩ (.int .i32 (imm (ld m.mem k 4)))).alloc (.cells #[.int .i64 (opn (ld m.mem k 4)),.int .i64 (qRd (ld m.mem k 4)),.int .i64 (qR1 (ld m.mem k 4)),.int .i64 (qR2 (ld m.mem k 4)),.int .i32 (imm (ld m.mem k 4))] 61)).drew).cell? ⟨w.heap.size,2,none⟩=some (.int .i64 (qRd (ld m.mem k 4))):=by go_simp
 have r93:((((((((w7.setCell ⟨w.heap.size,0,none⟩ ((.func (.func KF) #[] #[]))).setCell ⟨w.heap.size,1,none⟩ (.int .i64 (opn (ld m.mem k 4)))).setCell ⟨w.heap.size,2,none⟩ (.int .i64 (qRd (ld m.mem k 4)))).setCell ⟨w.heap.size,3,none⟩ (.int .i64 (qR1 (ld m.mem k 4)))).setCell ⟨w.heap.size,4,none⟩ (.int .i64 (qR2 (ld m.mem k 4)))).setCell ⟨w.heap.size,5,none⟩ (.int .i32 (imm (ld m.mem k 4)))).alloc (.cells #[.int .i64 (opn (ld m.mem k 4)),.int .i64 (qRd (ld m.mem k 4)),.int .i64 (qR1 (ld m.mem k 4)),.int .i64 (qR2 (ld m.mem k 4)),.int .i32 (imm (ld m.mem k 4))] 61)).drew).cell? ⟨w.heap.size,3,none⟩=some (.int .i64 (qR1 (ld m.mem k 4))):=by go_simp
 have r94:((((((((w7.setCell ⟨w.heap.size,0,none⟩ ((.func (.func KF) #[] #[]))).setCell ⟨w.heap.size,1,none⟩ (.int .i64 (opn (ld m.mem k 4)))).setCell ⟨w.heap.size,2,none⟩ (.int .i64 (qRd (ld m.mem k 4)))).setCell ⟨w.heap.size,3,none⟩ (.int .i64 (qR1 (ld m.mem k 4)))).setCell ⟨w.heap.size,4,none⟩ (.int .i64 (qR2 (ld m.mem k 4)))).setCell ⟨w.heap.size,5,none⟩ (.int .i32 (imm (ld m.mem k 4)))).alloc (.cells #[.int .i64 (opn (ld m.mem k 4)),.int .i64 (qRd (ld m.mem k 4)),.int .i64 (qR1 (ld m.mem k 4)),.int .i64 (qR2 (ld m.mem k 4)),.int .i32 (imm (ld m.mem k 4))] 61)).drew).cell? ⟨w.heap.size,4,none⟩=some (.int .i64 (qR2 (ld m.mem k 4))):=by go_simp
 have r95:((((((((w7.setCell ⟨w.heap.size,0,none⟩ ((.func (.func KF) #[] #[]))).setCell ⟨w.heap.size,1,none⟩ (.int .i64 (opn (ld m.mem k 4)))).setCell ⟨w.heap.size,2,none⟩ (.int .i64 (qRd (ld m.mem k 4)))).setCell ⟨w.heap.size,3,none⟩ (.int .i64 (qR1 (ld m.mem k 4)))).setCell ⟨w.heap.size,4,none⟩ (.int .i64 (qR2 (ld m.mem k 4)))).setCell ⟨w.heap.size,5,none⟩ (.int .i32 (imm (ld m.mem k 4)))).alloc (.cells #[.int .i64 (opn (ld m.mem k 4)),.int .i64 (qRd (ld m.mem k 4)),.int .i64 (qR1 (ld m.mem k 4)),.int .i64 (qR2 (ld m.mem k 4)),.int .i32 (imm (ld m.mem k 4))] 61)).drew).cell? ⟨w.heap.size,5,none⟩=some (.int .i32 (imm (ld m.mem k 4))):=by go_simp
 have t9:ref.Touch [] w ((((((((w7.setCell ⟨w.heap.size,0,none⟩ ((.func (.func KF) #[] #[]))).setCell ⟨w.heap.size,1,none⟩ (.int .i64 (opn (ld m.mem k 4)))).setCell ⟨w.heap.size,2,none⟩ (.int .i64 (qRd (ld m.mem k 4)))).setCell ⟨w.heap.size,3,none⟩ (.int .i64 (qR1 (ld m.mem k 4)))).setCell ⟨w.heap.size,4,none⟩ (.int .i64 (qR2 (ld m.mem k 4)))).setCell ⟨w.heap.size,5,none⟩ (.int .i32 (imm (ld m.mem k 4)))).alloc (.cells #[.int .i64 (opn (ld m.mem k 4)),.int .i64 (qRd (ld m.mem k 4)),.int .i64 (qR1 (ld m.mem k 4)),.int .i64 (qR2 (ld m.mem k 4)),.int .i32 (imm (ld m.mem k 4))] 61)).drew):=by
  have tw:ref.Touch [] w w7:=ref.Touch.trans ((ref.Touch.refl _ _).alloc _) t7
  refine ref.Touch.drew (ref.Touch.alloc ?_ _)
  exact touch_cell (touch_cell (touch_cell (touch_cell (touch_cell (touch_cell tw (Nat.le_refl _) _) (Nat.le_refl _) _) (Nat.le_refl _) _) (Nat.le_refl _) _) (Nat.le_refl _) _) (Nat.le_refl _) _
 generalize(((((((w7.setCell ⟨w.heap.size,0,none⟩ ((.func (.func KF) #[] #[]))).setCell ⟨w.heap.size,1,none⟩ (.int .i64 (opn (ld m.mem k 4)))).setCell ⟨w.heap.size,2,none⟩ (.int .i64 (qRd (ld m.mem k 4)))).setCell ⟨w.heap.size,3,none⟩ (.int .i64 (qR1 (ld m.mem k 4)))).setCell ⟨w.heap.size,4,none⟩ (.int .i64 (qR2 (ld m.mem k 4)))).setCell ⟨w.heap.size,5,none⟩ (.int .i32 (imm (ld m.mem k 4)))).alloc (.cells #[.int .i64 (opn (ld m.mem k 4)),.int .i64 (qRd (ld m.mem k 4)),.int .i64 (qR1 (ld m.mem k 4)),.int .i64 (qR2 (ld m.mem k 4)),.int .i32 (imm (ld m.mem k 4))] 61)).drew=w9 at hS9 r90 r91 r92 r93 r94 r95 t9 ⊢
 have T9:Hid (ref.Touch [] w w9):=t9
 clear t9
 refine hK.out _ _ (hS9) (fun hHeld=> ?_)
 clear hK K
 try go_frame
 refine tkk 6 5 ?_
 try go_frame
 refine wpAnyH_done kR ?_ _
 go_wp2_with fail
 refine bodyPost_ret (v:=.tuple #[.agg #[(.func (.func KF) #[] #[]),.int .i64 (opn (ld m.mem k 4)),.int .i64 (qRd (ld m.mem k 4)),.int .i64 (qR1 (ld m.mem k 4)),.int .i64 (qR2 (ld m.mem k 4)),.int .i32 (imm (ld m.mem k 4))],.bool true]) ?_ rfl ⟨rfl, ?_⟩
 ·simp[results,Tryz.results75,go_sem,r90,r91,r92,r93,r94,r95]
 ·exact T9.out
theorem fetch_al{B b mb:Nat}{m:M}{nx:Int}{vX:Nat->Value}{w:World}(h:PAt B b mb m nx vX w)(hz:0<m.size)(hf:Fine m)(k:Nat)(hk:m.pc=k)(ha:¬(k:Int)%4=0):
  Calls Tryz.prog 48 #[.pointer (some ⟨b,0,none⟩)] w fun e w'=>e=.panicked (trapV 3)/\ref.Touch [] w w':=by
 have lb:b<w.heap.size:=World.block_lt_of_cell? _ _ h.data
 have HH:Hid (PAt B b mb m nx vX (w.alloc (.cells #[.nilFunc,.int .i64 0,.int .i64 0,.int .i64 0,.int .i64 0,.int .i32 0] 96))):=h.other ((ref.Touch.refl [] _).alloc _) sP sP hz
 have HHt:Hid (∀w',ref.Touch [] (w.alloc (.cells #[.nilFunc,.int .i64 0,.int .i64 0,.int .i64 0,.int .i64 0,.int .i32 0] 96)) w'->PAt B b mb m nx vX w'):=fun w' t=>HH.out.other t sP sP hz
 have HZ:Hid (0<m.size):=hz
 have HF:Hid (Fine m):=hf
 have cpc:(w.alloc (.cells #[.nilFunc,.int .i64 0,.int .i64 0,.int .i64 0,.int .i64 0,.int .i32 0] 96)).cell? ⟨b,33,none⟩=some (.int .u32 (k:Int)):=(HH.out.cells 33 dC dC).trans XL2
 have k0:(0:Int)<=(k:Int):=by omega
 have k1:(k:Int)<=4294967295:=by have:=hf.pc.2;omega
 clear h hz hf
 go_enter Tryz.func48,Tryz.ntmps48
 go_wp2_with (first|(go_at_call 74;refine(Calls.mono (guard4_al (HHt.out _ tch) (k:Int) 3 4 k0 k1 HF.out.size ha) ?_);rintro e w' ⟨rfl,hw'⟩;subst w'))
 exact⟨rfl,rfl,tcb⟩
theorem fetch_fa{B b mb:Nat}{m:M}{nx:Int}{vX:Nat->Value}{w:World}(h:PAt B b mb m nx vX w)(hz:0<m.size)(hf:Fine m)(k:Nat)(hk:m.pc=k)(ha:(k:Int)%4=0)(hl:lies m k 4=false):
  Calls Tryz.prog 48 #[.pointer (some ⟨b,0,none⟩)] w fun e w'=>e=.panicked (trapV 4)/\ref.Touch [] w w':=by
 have lb:b<w.heap.size:=World.block_lt_of_cell? _ _ h.data
 have HH:Hid (PAt B b mb m nx vX (w.alloc (.cells #[.nilFunc,.int .i64 0,.int .i64 0,.int .i64 0,.int .i64 0,.int .i32 0] 96))):=h.other ((ref.Touch.refl [] _).alloc _) sP sP hz
 have HHt:Hid (∀w',ref.Touch [] (w.alloc (.cells #[.nilFunc,.int .i64 0,.int .i64 0,.int .i64 0,.int .i64 0,.int .i32 0] 96)) w'->PAt B b mb m nx vX w'):=fun w' t=>HH.out.other t sP sP hz
 have HZ:Hid (0<m.size):=hz
 have HF:Hid (Fine m):=hf
 have cpc:(w.alloc (.cells #[.nilFunc,.int .i64 0,.int .i64 0,.int .i64 0,.int .i64 0,.int .i32 0] 96)).cell? ⟨b,33,none⟩=some (.int .u32 (k:Int)):=(HH.out.cells 33 dC dC).trans XL2
 have k0:(0:Int)<=(k:Int):=by omega
 have k1:(k:Int)<=4294967295:=by have:=hf.pc.2;omega
 clear h hz hf
 go_enter Tryz.func48,Tryz.ntmps48
 go_wp2_with (first|(go_at_call 74;refine(Calls.mono (guard4_fa (HHt.out _ tch) (k:Int) 3 4 k0 k1 HF.out.size ha hl) ?_);rintro e w' ⟨rfl,hw'⟩;subst w'))
 exact⟨rfl,rfl,tcb⟩
theorem fetch_no{B b mb:Nat}{m:M}{nx:Int}{vX:Nat->Value}{w:World}(h:PAt B b mb m nx vX w)(hz:0<m.size)(hf:Fine m)(k:Nat)(hk:m.pc=k)(ha:(k:Int)%4=0)(hl:lies m k 4=true)(hT:∀w',ref.Touch [] w w'->decodes.Tabs w' (ld m.mem k 4))(hn:opn (ld m.mem k 4)=-1):
  Calls Tryz.prog 48 #[.pointer (some ⟨b,0,none⟩)] w fun e w'=>e=.panicked (trapV 2)/\ref.Touch [] w w':=by
 have lb:b<w.heap.size:=World.block_lt_of_cell? _ _ h.data
 have HH:Hid (PAt B b mb m nx vX (w.alloc (.cells #[.nilFunc,.int .i64 0,.int .i64 0,.int .i64 0,.int .i64 0,.int .i32 0] 96))):=h.other ((ref.Touch.refl [] _).alloc _) sP sP hz
 have HHt:Hid (∀w',ref.Touch [] (w.alloc (.cells #[.nilFunc,.int .i64 0,.int .i64 0,.int .i64 0,.int .i64 0,.int .i32 0] 96)) w'->PAt B b mb m nx vX w'):=fun w' t=>HH.out.other t sP sP hz
 have HZ:Hid (0<m.size):=hz
 have HF:Hid (Fine m):=hf
 have cpc:(w.alloc (.cells #[.nilFunc,.int .i64 0,.int .i64 0,.int .i64 0,.int .i64 0,.int .i32 0] 96)).cell? ⟨b,33,none⟩=some (.int .u32 (k:Int)):=(HH.out.cells 33 dC dC).trans XL2
 have k0:(0:Int)<=(k:Int):=by omega
 have k1:(k:Int)<=4294967295:=by have:=hf.pc.2;omega
 have hk4:k+4<=m.size:=by simp[lies]at hl;omega
 have HTb:Hid (∀w',ref.Touch [] w w'->decodes.Tabs w' (ld m.mem k 4)):=hT
 clear h hz hf
 go_enter Tryz.func48,Tryz.ntmps48
 go_wp2_with (first|(go_at_call 74;refine(Calls.mono (guard4_ok (HHt.out _ tch) (k:Int) 3 4 k0 k1 HF.out.size ha hl) ?_);rintro e w' ⟨rfl,hw'⟩;subst w')|(go_at_call 75;refine(Calls.mono (ready_no (HHt.out _ tch) HZ.out HF.out k hk4 (fun w' t=>HTb.out w' (ref.Touch.trans ((ref.Touch.refl _ _).alloc _) t)) hn) ?_);rintro e w7 ⟨rfl,ht7⟩;have t7:ref.Touch [] (w.alloc (.cells #[.nilFunc,.int .i64 0,.int .i64 0,.int .i64 0,.int .i64 0,.int .i32 0] 96)) w7:=ref.Touch.trans tch ht7;clear ht7;have HTH:Hid (w7.there w.heap.size 0 6):=there_t (there_new w _ _) dC t7 sP;have tw:ref.Touch [] w w7:=ref.Touch.trans ((ref.Touch.refl _ _).alloc _) t7;have l7:w.heap.size<w7.heap.size:=(by have:=t7.size;simp at this;omega))|(refine wpList_store_mid rF 96 (.tmp 3) (.tmp 18) rF w7.heap.size 0 #[Value.nilFunc,Value.int .i64 0,Value.int .i64 0,Value.int .i64 0,Value.int .i64 0,Value.int .i32 0] rF rF (there_new w7 _ _) info_st oC ?_;generalize hw9:World.setCells _ w7.heap.size 0 (Array.toList #[Value.nilFunc,Value.int .i64 0,Value.int .i64 0,Value.int .i64 0,Value.int .i64 0,Value.int .i32 0])=w9;have R9:Hid (w9.rangeAt w7.heap.size 0 (Array.toList #[Value.nilFunc,Value.int .i64 0,Value.int .i64 0,Value.int .i64 0,Value.int .i64 0,Value.int .i32 0])):=XL0;have T9:Hid (ref.Touch [] w7 w9):=XL1;clear hw9)|(go_at_call 76;refine(end_any 2 _).mono ?_;rintro e w' ⟨rfl,hw'⟩;subst w'))
 exact⟨rfl,rfl,ref.Touch.trans tw T9.out⟩
theorem fetch_ok{B b mb:Nat}{m:M}{nx:Int}{vX:Nat->Value}{w:World}(h:PAt B b mb m nx vX w)(hz:0<m.size)(hf:Fine m)(k:Nat)(hk:m.pc=k)(ha:(k:Int)%4=0)(hl:lies m k 4=true)(hT:∀w',ref.Touch [] w w'->decodes.Tabs w' (ld m.mem k 4))(hn:¬opn (ld m.mem k 4)=-1)(KF:Nat)(hao:∀w,Calls Tryz.prog 103 #[.int .i64 (opn (ld m.mem k 4))] w fun e w'=>e=.returned (.func (.func KF) #[] #[])/\w'=w):
  Calls Tryz.prog 48 #[.pointer (some ⟨b,0,none⟩)] w fun e w'=>e=.returned (.agg #[(.func (.func KF) #[] #[]),.int .i64 (opn (ld m.mem k 4)),.int .i64 (qRd (ld m.mem k 4)),.int .i64 (qR1 (ld m.mem k 4)),.int .i64 (qR2 (ld m.mem k 4)),.int .i32 (imm (ld m.mem k 4))])/\ref.Touch [] w w':=by
 have lb:b<w.heap.size:=World.block_lt_of_cell? _ _ h.data
 have HH:Hid (PAt B b mb m nx vX (w.alloc (.cells #[.nilFunc,.int .i64 0,.int .i64 0,.int .i64 0,.int .i64 0,.int .i32 0] 96))):=h.other ((ref.Touch.refl [] _).alloc _) sP sP hz
 have HHt:Hid (∀w',ref.Touch [] (w.alloc (.cells #[.nilFunc,.int .i64 0,.int .i64 0,.int .i64 0,.int .i64 0,.int .i32 0] 96)) w'->PAt B b mb m nx vX w'):=fun w' t=>HH.out.other t sP sP hz
 have HZ:Hid (0<m.size):=hz
 have HF:Hid (Fine m):=hf
 have cpc:(w.alloc (.cells #[.nilFunc,.int .i64 0,.int .i64 0,.int .i64 0,.int .i64 0,.int .i32 0] 96)).cell? ⟨b,33,none⟩=some (.int .u32 (k:Int)):=(HH.out.cells 33 dC dC).trans XL2
 have k0:(0:Int)<=(k:Int):=by omega
 have k1:(k:Int)<=4294967295:=by have:=hf.pc.2;omega
 have hk4:k+4<=m.size:=by simp[lies]at hl;omega
 have HTb:Hid (∀w',ref.Touch [] w w'->decodes.Tabs w' (ld m.mem k 4)):=hT
 have HAO:Hid (∀w,Calls Tryz.prog 103 #[.int .i64 (opn (ld m.mem k 4))] w fun e w'=>e=.returned (.func (.func KF) #[] #[])/\w'=w):=hao
 clear h hz hf
 go_enter Tryz.func48,Tryz.ntmps48
 go_wp2_with (first|(go_at_call 74;refine(Calls.mono (guard4_ok (HHt.out _ tch) (k:Int) 3 4 k0 k1 HF.out.size ha hl) ?_);rintro e w' ⟨rfl,hw'⟩;subst w')|(go_at_call 75;refine(Calls.mono (ready_ok (HHt.out _ tch) HZ.out HF.out k hk4 (fun w' t=>HTb.out w' (ref.Touch.trans ((ref.Touch.refl _ _).alloc _) t)) hn KF HAO.out) ?_);rintro e w7 ⟨rfl,ht7⟩;have t7:ref.Touch [] (w.alloc (.cells #[.nilFunc,.int .i64 0,.int .i64 0,.int .i64 0,.int .i64 0,.int .i32 0] 96)) w7:=ref.Touch.trans tch ht7;clear ht7;have HTH:Hid (w7.there w.heap.size 0 6):=there_t (there_new w _ _) dC t7 sP;have tw:ref.Touch [] w w7:=ref.Touch.trans ((ref.Touch.refl _ _).alloc _) t7;have l7:w.heap.size<w7.heap.size:=(by have:=t7.size;simp at this;omega))|(refine wpList_store_mid rF 96 (.tmp 3) (.tmp 18) rF w7.heap.size 0 #[Value.func (.func KF) #[] #[],Value.int .i64 (opn (ld m.mem k 4)),Value.int .i64 (qRd (ld m.mem k 4)),Value.int .i64 (qR1 (ld m.mem k 4)),Value.int .i64 (qR2 (ld m.mem k 4)),Value.int .i32 (imm (ld m.mem k 4))] rF rF (there_new w7 _ _) info_st oC ?_;generalize hw9:World.setCells _ w7.heap.size 0 (Array.toList #[Value.func (.func KF) #[] #[],Value.int .i64 (opn (ld m.mem k 4)),Value.int .i64 (qRd (ld m.mem k 4)),Value.int .i64 (qR1 (ld m.mem k 4)),Value.int .i64 (qR2 (ld m.mem k 4)),Value.int .i32 (imm (ld m.mem k 4))])=w9;have R9:Hid (w9.rangeAt w7.heap.size 0 (Array.toList #[Value.func (.func KF) #[] #[],Value.int .i64 (opn (ld m.mem k 4)),Value.int .i64 (qRd (ld m.mem k 4)),Value.int .i64 (qR1 (ld m.mem k 4)),Value.int .i64 (qR2 (ld m.mem k 4)),Value.int .i32 (imm (ld m.mem k 4))])):=XL0;have T9:Hid (ref.Touch [] w7 w9):=XL1;clear hw9)|(refine wpList_load_mid rF 96 (.tmp 3) rF w7.heap.size 0 rF (Array.toList #[Value.func (.func KF) #[] #[],Value.int .i64 (opn (ld m.mem k 4)),Value.int .i64 (qRd (ld m.mem k 4)),Value.int .i64 (qR1 (ld m.mem k 4)),Value.int .i64 (qR2 (ld m.mem k 4)),Value.int .i32 (imm (ld m.mem k 4))]) _ R9.out Tryz.underlying96 rfl info_st ?_)|(refine wpList_store_mid rF 96 (.tmp 2) (.tmp 23) rF w.heap.size 0 #[Value.func (.func KF) #[] #[],Value.int .i64 (opn (ld m.mem k 4)),Value.int .i64 (qRd (ld m.mem k 4)),Value.int .i64 (qR1 (ld m.mem k 4)),Value.int .i64 (qR2 (ld m.mem k 4)),Value.int .i32 (imm (ld m.mem k 4))] rF rF (there_t (n:=6) HTH.out (Nat.succ_pos 5) T9.out sP) info_st oC ?_;generalize hw10:World.setCells w9 w.heap.size 0 (Array.toList #[Value.func (.func KF) #[] #[],Value.int .i64 (opn (ld m.mem k 4)),Value.int .i64 (qRd (ld m.mem k 4)),Value.int .i64 (qR1 (ld m.mem k 4)),Value.int .i64 (qR2 (ld m.mem k 4)),Value.int .i32 (imm (ld m.mem k 4))])=w10;have R10:Hid (w10.rangeAt w.heap.size 0 (Array.toList #[Value.func (.func KF) #[] #[],Value.int .i64 (opn (ld m.mem k 4)),Value.int .i64 (qRd (ld m.mem k 4)),Value.int .i64 (qR1 (ld m.mem k 4)),Value.int .i64 (qR2 (ld m.mem k 4)),Value.int .i32 (imm (ld m.mem k 4))])):=(by rw[<-hw10];exact World.rangeAt_setCells_same _ _ _ _ (there_t (n:=6) HTH.out (Nat.succ_pos 5) T9.out sP));have T10:Hid (ref.Touch [] w w10):=(by rw[<-hw10];exact touch_newP _ _ _ _ (ref.Touch.trans tw T9.out) sP);clear hw10))
 refine bodyPost_ret (results_c Tryz.results48 _ _ _ w.heap.size (Array.toList #[Value.func (.func KF) #[] #[],Value.int .i64 (opn (ld m.mem k 4)),Value.int .i64 (qRd (ld m.mem k 4)),Value.int .i64 (qR1 (ld m.mem k 4)),Value.int .i64 (qR2 (ld m.mem k 4)),Value.int .i32 (imm (ld m.mem k 4))]) rF _ R10.out Tryz.underlying96 rfl info_st) rfl ?_
 exact⟨rfl,T10.out⟩
end prog
end Go.Proofs.YtjikimpejlmdiaaGreatDoor

import Derived.Test.YtjikimpejlmdiaaGreatDoorZGo
import Derived.BigRegion
import Derived.Deep.OwnRows
import Derived.Deep.RegionHeld3
set_option maxHeartbeats 4000000
set_option linter.unusedVariables false
set_option linter.unusedSimpArgs false
set_option maxRecDepth 10000
namespace Go.Proofs.YtjikimpejlmdiaaGreatDoor
theorem Xi0{p:Prop}(h:p:=by
 go_enter Tryz.func29,Tryz.ntmps29
 go_wp2_with (first|(go_at_call 42;refine(Calls.mono (within_any _ _ _ dC _) ?_);rintro e w' ⟨rfl,hw'⟩;subst w'))
 go_quiet (first|(go_at_call 44;exact Calls.quiet_of_same (size_any pg oM oM _))|(go_at_call 43;exact Calls.quiet_of_same (lies_any ba (im.size:Int) (pg*64) ba0 ba1 oM oM _)))
 go_wp2_with (first|(go_at_call 42;refine(Calls.mono (within_any _ _ _ dC _) ?_);rintro e w' ⟨rfl,hw'⟩;subst w'))
 go_ret
 exact⟨rfl,((ref.Touch.refl _ _).alloc _).drewN _⟩):p:=h
theorem Xi1{p:Prop}(h:p:=by
 have HR1:Hid (PAt w.heap.size (w.heap.size+1+1) (w.heap.size+1) (ref.start (p:Int) im (k:Int) en ans fu sl ar false) 0 (vX3 ((k:Int)+im.size) (.slice none 0 0) (.slice oa na ca) (cacheV 0 0 0 0)) w1):=by
  rw[hw1]
  have h5:=hr.puts k im (by rw[hsz];omega)
  exact⟨h5.hb,h5.hmb,h5.ne,h5.cells,h5.data,h5.free,h5.bytes,h5.freem⟩
 have HT1:Hid (ref.Touch [w.heap.size+1] w w1):=by rw[hw1];exact touch_sets sP _ _ _ _ (tW.drew.mono sP)
 clear hr hw1 tW hsz
 go_wp2_with fail
 go_region
 go_wp2_with fail
 go_ret
 exact⟨rfl,HR1.out,HT1.out.below (Nat.le_refl _) sP⟩):p:=h
theorem Xi2{p:Prop}(h:p:=by
 have e:∀j,w'.cell? ⟨w.heap.size,j,none⟩=(w.alloc (.cells #[.int .i64 (p:Int),.string im,.int .u32 (k:Int),.int .u32 en,.slice oa na ca,.int .i64 fu,.int .i64 sl,.int .i64 ar] 25)).cell? ⟨w.heap.size,j,none⟩:=fun j=>t.cell (p:=⟨w.heap.size,j,none⟩) sP sP
 exact⟨(e 0).trans (World.cell?_alloc_at _ _ _ _ rfl),(e 1).trans (World.cell?_alloc_at _ _ _ _ rfl),(e 2).trans (World.cell?_alloc_at _ _ _ _ rfl),(e 3).trans (World.cell?_alloc_at _ _ _ _ rfl),(e 4).trans (World.cell?_alloc_at _ _ _ _ rfl)⟩):p:=h
theorem Xi3{p:Prop}(h:p:=by
 go_enter Tryz.func42,Tryz.ntmps42
 go_wp2
 all_goals go_ret
 all_goals (refine⟨congrArg (fun b=>Ending.returned (Value.bool b)) (Bool.eq_iff_iff.2 ?_),rfl⟩;simp;try omega)):p:=h
theorem Xi4{p:Prop}(h:p:=by
 rw[Nat.min_eq_left oM,ref.ext_all]at this
 rw[hw1];exact this):p:=h
theorem Xi5{p:Prop}(h:p:=by
 rintro e w' ⟨h1,h2,h3⟩
 exact⟨h1,h2,ha.below h3,h3⟩):p:=h
theorem Xi6{p:Prop}(h:p:=by rw[<-hW];exact(((ref.Touch.refl _ _).alloc _).alloc _).drew):p:=h
theorem Xi7{p:Prop}(h:p:=by rw[hsz];omega):p:=h
namespace prog
open ChangeShapes WideShapes ChangeAt RowKit nums dnums mach
attribute [local go_sem ↓] Go.wp_at_zero Go.wp_at_succ
theorem size_any(p:Int)(p0:0<=p)(p1:p<=8)(w:World):Calls Tryz.prog 44 #[.int .i64 p] w fun e w'=>e=.returned (.int .u64 (p*64))/\w'=w:=by
 have q1:IntKind.u64.wrap p=p:=by rw[IntKind.wrap_u64];omega
 have q2:IntKind.u64.wrap (p*64)=p*64:=by rw[IntKind.wrap_u64];omega
 go_enter Tryz.func44,Tryz.ntmps44
 go_wp2
 go_ret
 exact⟨rfl,rfl⟩
theorem within_any(n lo hi:Int)(hlh:lo<=hi)(w:World):Calls Tryz.prog 42 #[.int .i64 n,.int .i64 lo,.int .i64 hi] w fun e w'=>e=.returned (.bool (decide (lo<=n/\n<=hi)))/\w'=w:=by
 by_cases h1:n<=hi
 ·have k1:¬hi<n:=by omega
  by_cases h2:lo<=n
  ·have k2:¬n<lo:=by omega
   rw[show decide (lo<=n/\n<=hi)=true by simp[h1,h2]]
   exact Xi3
  ·have k2:n<lo:=by omega
   rw[show decide (lo<=n/\n<=hi)=false by simp[h2]]
   exact Xi3
 ·have k1:hi<n:=by omega
  have k2:¬hi<lo:=by omega
  rw[show decide (lo<=n/\n<=hi)=false by simp[h1]]
  exact Xi3
theorem ck_pg(pg:Int)(im:ByteArray)(ba en:Int)(vA:Value)(fu sl ar:Int)(ba0:0<=ba)(ba1:ba<=4294967295)(him:im.size<=1048576)(w:World)(h1:¬(1<=pg/\pg<=8)):Calls Tryz.prog 29 #[.agg #[.int .i64 pg,.string im,.int .u32 ba,.int .u32 en,vA,.int .i64 fu,.int .i64 sl,.int .i64 ar]] w fun e w'=>e=.returned (.int .i64 1)/\ref.Touch [] w w':=by
 have d1:decide (1<=pg/\pg<=8)=false:=by simp only[h1,decide_false]
 go_enter Tryz.func29,Tryz.ntmps29
 go_wp2_with (first|(go_at_call 42;refine(Calls.mono (within_any _ _ _ dC _) ?_);rintro e w' ⟨rfl,hw'⟩;subst w'))
 go_ret
 exact⟨rfl,(ref.Touch.refl _ _).alloc _⟩
theorem ck_im(pg:Int)(im:ByteArray)(ba en:Int)(vA:Value)(fu sl ar:Int)(ba0:0<=ba)(ba1:ba<=4294967295)(him:im.size<=1048576)(w:World)(p0:1<=pg)(p1:pg<=8)(h1:¬ba+im.size<=pg*64):Calls Tryz.prog 29 #[.agg #[.int .i64 pg,.string im,.int .u32 ba,.int .u32 en,vA,.int .i64 fu,.int .i64 sl,.int .i64 ar]] w fun e w'=>e=.returned (.int .i64 2)/\ref.Touch [] w w':=by
 have d1:decide (1<=pg/\pg<=8)=true:=by simp;omega
 have q1:IntKind.u64.wrap (im.size:Int)=(im.size:Int):=by rw[IntKind.wrap_u64];omega
 have q0:IntKind.u64.wrap ba=ba:=by rw[IntKind.wrap_u64];omega
 have d3:decide (ba+(im.size:Int)<=pg*64)=false:=by simp;omega
 exact Xi0
theorem ck_fu(pg:Int)(im:ByteArray)(ba en:Int)(vA:Value)(fu sl ar:Int)(ba0:0<=ba)(ba1:ba<=4294967295)(him:im.size<=1048576)(w:World)(p0:1<=pg)(p1:pg<=8)(i0:ba+im.size<=pg*64)(h1:¬(0<=fu/\fu<=2000)):Calls Tryz.prog 29 #[.agg #[.int .i64 pg,.string im,.int .u32 ba,.int .u32 en,vA,.int .i64 fu,.int .i64 sl,.int .i64 ar]] w fun e w'=>e=.returned (.int .i64 3)/\ref.Touch [] w w':=by
 have d1:decide (1<=pg/\pg<=8)=true:=by simp;omega
 have q1:IntKind.u64.wrap (im.size:Int)=(im.size:Int):=by rw[IntKind.wrap_u64];omega
 have q0:IntKind.u64.wrap ba=ba:=by rw[IntKind.wrap_u64];omega
 have d3:decide (ba+(im.size:Int)<=pg*64)=true:=by simp;omega
 have d5:decide (0<=fu/\fu<=2000)=false:=by simp only[h1,decide_false]
 exact Xi0
theorem ck_ok(pg:Int)(im:ByteArray)(ba en:Int)(vA:Value)(fu sl ar:Int)(ba0:0<=ba)(ba1:ba<=4294967295)(him:im.size<=1048576)(w:World)(p0:1<=pg)(p1:pg<=8)(i0:ba+im.size<=pg*64)(f0:0<=fu)(f1:fu<=2000):Calls Tryz.prog 29 #[.agg #[.int .i64 pg,.string im,.int .u32 ba,.int .u32 en,vA,.int .i64 fu,.int .i64 sl,.int .i64 ar]] w fun e w'=>e=.returned (.int .i64 0)/\ref.Touch [] w w':=by
 have d1:decide (1<=pg/\pg<=8)=true:=by simp;omega
 have q1:IntKind.u64.wrap (im.size:Int)=(im.size:Int):=by rw[IntKind.wrap_u64];omega
 have q0:IntKind.u64.wrap ba=ba:=by rw[IntKind.wrap_u64];omega
 have d3:decide (ba+(im.size:Int)<=pg*64)=true:=by simp;omega
 have d5:decide (0<=fu/\fu<=2000)=true:=by simp;omega
 exact Xi0
theorem check_any(pg:Int)(im:ByteArray)(ba en:Int)(vA:Value)(fu sl ar:Int)(ba0:0<=ba)(ba1:ba<=4294967295)(him:im.size<=1048576)(w:World):Calls Tryz.prog 29 #[.agg #[.int .i64 pg,.string im,.int .u32 ba,.int .u32 en,vA,.int .i64 fu,.int .i64 sl,.int .i64 ar]] w fun e w'=>e=.returned (.int .i64 (ref.wrong pg im ba fu sl ar false))/\ref.Touch [] w w':=by
 unfold ref.wrong
 by_cases c1:pg<1\/8<pg
 ·rw[if_pos c1]
  exact ck_pg pg im ba en vA fu sl ar ba0 ba1 him w oM
 rw[if_neg c1]
 by_cases c2:pg*64<im.size\/pg*64-im.size<ba
 ·rw[if_pos c2]
  exact ck_im pg im ba en vA fu sl ar ba0 ba1 him w oM oM oM
 rw[if_neg c2]
 by_cases c3:fu<0\/2000<fu
 ·rw[if_pos c3]
  exact ck_fu pg im ba en vA fu sl ar ba0 ba1 him w oM oM oM oM
 rw[if_neg c3,if_neg (fun h=>by cases h.1)]
 exact ck_ok pg im ba en vA fu sl ar ba0 ba1 him w oM oM oM oM oM
theorem make_mem(p:Nat)(hp:p<=8)(w:World):(Instr.makeSlice 74 (.int .u64 ((p:Int)*64)) (.int .u64 ((p:Int)*64))).run Tryz.prog w=.ok (.slice (some ⟨w.heap.size,0,none⟩) (p*64) (p*64)) (w.alloc (.cells (madeCells #[.int .u8 0] (p*64)) 5)):=by
 have:=run_make_row' (P:=Tryz.prog) 74 5 (.int .u8 0) 1 Tryz.underlying74 ref.info_u8 rfl .u64 .u64 (p*64) oM oM w
 rw[show(((p*64:Nat)):Int)=(p:Int)*64 by push_cast;rfl]at this
 exact this
theorem mach_eq(g p k na ca:Nat)(oa:Option Addr)(im:ByteArray)(en fu sl ar:Int)(ans:List ByteArray):
  (#[.int .u32 0,.int .u32 0,.int .u32 0,.int .u32 0,.int .u32 0,.int .u32 0,.int .u32 0,.int .u32 0,.int .u32 0,.int .u32 0,.int .u32 0,.int .u32 0,.int .u32 0,.int .u32 0,.int .u32 0,.int .u32 0,.int .u32 0,.int .u32 0,.int .u32 0,.int .u32 0,.int .u32 0,.int .u32 0,.int .u32 0,.int .u32 0,.int .u32 0,.int .u32 0,.int .u32 0,.int .u32 0,.int .u32 0,.int .u32 0,.int .u32 0,.int .u32 0,.slice (some ⟨g,0,none⟩) (p*64) (p*64),.int .u32 en,.int .u32 0,.int .u32 ((k:Int)+im.size),.int .u32 ((k:Int)+im.size),.slice oa na ca,.slice none 0 0,.int .i64 0,.slice none 0 0,.int .i64 0,.int .i64 0,.map none]:Array Value)=((List.range 44).map fun i=>if i=32 then Value.slice (some ⟨g,0,none⟩) (p*64) (p*64)else layP {ref.start (p:Int) im (k:Int) en ans fu sl ar false with mem:=fun _=>0 } 0 (vX3 ((k:Int)+im.size) (.slice none 0 0) (.slice oa na ca) (cacheV 0 0 0 0)) i).toArray:=by
 simp[List.range,List.range.loop,layP,vX3,cacheV,slotsV,mapV,ref.start]
theorem new_at(p k na ca:Nat)(oa:Option Addr)(im:ByteArray)(en fu sl ar:Int)(ans:List ByteArray)(w:World):
  PAt w.heap.size (w.heap.size+1+1) (w.heap.size+1) {ref.start (p:Int) im (k:Int) en ans fu sl ar false with mem:=fun _=>0 } 0 (vX3 ((k:Int)+im.size) (.slice none 0 0) (.slice oa na ca) (cacheV 0 0 0 0)) (((((w.alloc (.cells #[.int .i64 (p:Int),.string im,.int .u32 (k:Int),.int .u32 en,.slice oa na ca,.int .i64 fu,.int .i64 sl,.int .i64 ar] 25))).alloc (.cells (madeCells #[.int .u8 0] (p*64)) 5)).alloc (.cells #[.int .u32 0,.int .u32 0,.int .u32 0,.int .u32 0,.int .u32 0,.int .u32 0,.int .u32 0,.int .u32 0,.int .u32 0,.int .u32 0,.int .u32 0,.int .u32 0,.int .u32 0,.int .u32 0,.int .u32 0,.int .u32 0,.int .u32 0,.int .u32 0,.int .u32 0,.int .u32 0,.int .u32 0,.int .u32 0,.int .u32 0,.int .u32 0,.int .u32 0,.int .u32 0,.int .u32 0,.int .u32 0,.int .u32 0,.int .u32 0,.int .u32 0,.int .u32 0,.slice (some ⟨w.heap.size+1,0,none⟩) (p*64) (p*64),.int .u32 en,.int .u32 0,.int .u32 ((k:Int)+im.size),.int .u32 ((k:Int)+im.size),.slice oa na ca,.slice none 0 0,.int .i64 0,.slice none 0 0,.int .i64 0,.int .i64 0,.map none] 91))):=by
 have hs:({ref.start (p:Int) im (k:Int) en ans fu sl ar false with mem:=fun _=>0 }:M).size=p*64:=by simp[ref.start];omega
 refine⟨by omega,by omega,by omega,fun i hi hM=> ?_, ?_,fun i=> ?_,fun i hi=> ?_,fun i=> ?_⟩
 ·rw[World.cell?_alloc_at _ _ _ _ sP,mach_eq (w.heap.size+1) p k na ca oa im en fu sl ar ans]
  simp[hi,hM]
 ·rw[World.cell?_alloc_at _ _ _ _ sP,hs]
  rfl
 ·exact World.frozen?_alloc_at _ _ _ _ sP
 ·rw[World.cell?_alloc_past _ _ _ sP,World.cell?_alloc_at _ _ _ _ sP]
  exact ref.made_at _ _ _ oM
 ·rw[World.frozen?_alloc_past _ _ _ sP]
  exact World.frozen?_alloc_at _ _ _ _ sP
theorem newp_y(p k na ca:Nat)(oa:Option Addr)(im:ByteArray)(en fu sl ar:Int)(w:World)(p0:1<=p)(p1:p<=8)(hki:k+im.size<=p*64)(hks:¬p*64=k)(ans:List ByteArray)(ha:ref.AnsAt w.heap.size ans (.slice oa na ca) w):
  Calls Tryz.prog 30 #[.agg #[.int .i64 (p:Int),.string im,.int .u32 (k:Int),.int .u32 en,.slice oa na ca,.int .i64 fu,.int .i64 sl,.int .i64 ar]] w fun e w'=>e=.returned (.pointer (some ⟨w.heap.size+1+1,0,none⟩))/\PAt w.heap.size (w.heap.size+1+1) (w.heap.size+1) (ref.start (p:Int) im (k:Int) en ans fu sl ar false) 0 (vX3 ((k:Int)+im.size) (.slice none 0 0) (.slice oa na ca) (cacheV 0 0 0 0)) w'/\Below w.heap.size w w':=by
 have q1:IntKind.u32.wrap (im.size:Int)=(im.size:Int):=by rw[IntKind.wrap_u32];omega
 have q2:IntKind.u32.wrap ((k:Int)+(im.size:Int))=(k:Int)+(im.size:Int):=by rw[IntKind.wrap_u32];omega
 have hmk:=make_mem p p1
 have HSk:Hid (∀w',ref.Touch [] (w.alloc (.cells #[.int .i64 (p:Int),.string im,.int .u32 (k:Int),.int .u32 en,.slice oa na ca,.int .i64 fu,.int .i64 sl,.int .i64 ar] 25)) w'->(fun w'=>w'.cell? ⟨w.heap.size,0,none⟩=some (.int .i64 (p:Int))/\w'.cell? ⟨w.heap.size,1,none⟩=some (.string im)/\w'.cell? ⟨w.heap.size,2,none⟩=some (.int .u32 (k:Int))/\w'.cell? ⟨w.heap.size,3,none⟩=some (.int .u32 en)/\w'.cell? ⟨w.heap.size,4,none⟩=some (.slice oa na ca)) w'):=fun w' t=>by
  exact Xi2
 have HKS:Hid (¬p*64=k):=hks
 have HKI:Hid (k+im.size<=p*64):=hki
 clear hks ha
 go_enter Tryz.func30,Tryz.ntmps30
 go_wp2_with fail
 go_region_held3 (fun w'=>w'.cell? ⟨w.heap.size,0,none⟩=some (.int .i64 (p:Int))/\w'.cell? ⟨w.heap.size,1,none⟩=some (.string im)/\w'.cell? ⟨w.heap.size,2,none⟩=some (.int .u32 (k:Int))/\w'.cell? ⟨w.heap.size,3,none⟩=some (.int .u32 en)/\w'.cell? ⟨w.heap.size,4,none⟩=some (.slice oa na ca)) (exact HSk.out _ tca) (first|(go_at_call 44;refine(Calls.mono (size_any (p:Int) oM oM _) ?_);rintro e w' ⟨rfl,hw'⟩;subst w'))
 have hks:=HKS.out
 generalize hW:(((((w.alloc (.cells #[.int .i64 (p:Int),.string im,.int .u32 (k:Int),.int .u32 en,.slice oa na ca,.int .i64 fu,.int .i64 sl,.int .i64 ar] 25))).alloc (.cells (madeCells #[.int .u8 0] (p*64)) 5)).alloc (.cells #[.int .u32 0,.int .u32 0,.int .u32 0,.int .u32 0,.int .u32 0,.int .u32 0,.int .u32 0,.int .u32 0,.int .u32 0,.int .u32 0,.int .u32 0,.int .u32 0,.int .u32 0,.int .u32 0,.int .u32 0,.int .u32 0,.int .u32 0,.int .u32 0,.int .u32 0,.int .u32 0,.int .u32 0,.int .u32 0,.int .u32 0,.int .u32 0,.int .u32 0,.int .u32 0,.int .u32 0,.int .u32 0,.int .u32 0,.int .u32 0,.int .u32 0,.int .u32 0,.slice (some ⟨w.heap.size+1,0,none⟩) (p*64) (p*64),.int .u32 en,.int .u32 0,.int .u32 ((k:Int)+im.size),.int .u32 ((k:Int)+im.size),.slice oa na ca,.slice none 0 0,.int .i64 0,.slice none 0 0,.int .i64 0,.int .i64 0,.map none] 91))).drew=W
 have hr0:=new_at p k na ca oa im en fu sl ar ans w
 have hr:PAt w.heap.size (w.heap.size+1+1) (w.heap.size+1) {ref.start (p:Int) im (k:Int) en ans fu sl ar false with mem:=fun _=>0 } 0 (vX3 ((k:Int)+im.size) (.slice none 0 0) (.slice oa na ca) (cacheV 0 0 0 0)) W.drew:=by rw[<-hW];exact⟨hr0.hb,hr0.hmb,hr0.ne,hr0.cells,hr0.data,hr0.free,hr0.bytes,hr0.freem⟩
 have tW:ref.Touch [] w W:=by rw[<-hW];exact((((ref.Touch.refl _ _).alloc _).alloc _).alloc _).drew
 have hSW:(fun w'=>w'.cell? ⟨w.heap.size,0,none⟩=some (.int .i64 (p:Int))/\w'.cell? ⟨w.heap.size,1,none⟩=some (.string im)/\w'.cell? ⟨w.heap.size,2,none⟩=some (.int .u32 (k:Int))/\w'.cell? ⟨w.heap.size,3,none⟩=some (.int .u32 en)/\w'.cell? ⟨w.heap.size,4,none⟩=some (.slice oa na ca)) W:=HSk.out W Xi6
 obtain⟨s0,s1,s2,s3,s4⟩:=hSW
 clear hW hr0 hmk
 have hsz:({ref.start (p:Int) im (k:Int) en ans fu sl ar false with mem:=fun _=>0 }:M).size=p*64:=by simp[ref.start];omega
 have cda:W.cell? ⟨w.heap.size+1+1,32,none⟩=some (.slice (some ⟨w.heap.size+1,0,none⟩) (p*64) (p*64)):=by have:=hr.data;rw[hsz]at this;exact this
 obtain⟨w1,hw1⟩:∃w1,w1=W.drew.setCells (w.heap.size+1) k (ref.strCells im):=⟨_,rfl⟩
 have hrun:∀ty,(Builtin.copy_ #[74,9] ty #[.slice (some ⟨w.heap.size+1,k,none⟩) (p*64-k) (p*64-k),.string im]).run Tryz.prog W.drew=.ok (goInt im.size) w1:=fun ty=>by
  have:=copy_p hr Xi7 k k (p*64-k) (p*64-k) im Xi7 (fun hp=>rfl) ty
  exact Xi4
 exact Xi1
theorem newp_n(p k na ca:Nat)(oa:Option Addr)(im:ByteArray)(en fu sl ar:Int)(w:World)(p0:1<=p)(p1:p<=8)(hki:k+im.size<=p*64)(hks:p*64=k)(ans:List ByteArray)(ha:ref.AnsAt w.heap.size ans (.slice oa na ca) w):
  Calls Tryz.prog 30 #[.agg #[.int .i64 (p:Int),.string im,.int .u32 (k:Int),.int .u32 en,.slice oa na ca,.int .i64 fu,.int .i64 sl,.int .i64 ar]] w fun e w'=>e=.returned (.pointer (some ⟨w.heap.size+1+1,0,none⟩))/\PAt w.heap.size (w.heap.size+1+1) (w.heap.size+1) (ref.start (p:Int) im (k:Int) en ans fu sl ar false) 0 (vX3 ((k:Int)+im.size) (.slice none 0 0) (.slice oa na ca) (cacheV 0 0 0 0)) w'/\Below w.heap.size w w':=by
 have q1:IntKind.u32.wrap (im.size:Int)=(im.size:Int):=by rw[IntKind.wrap_u32];omega
 have q2:IntKind.u32.wrap ((k:Int)+(im.size:Int))=(k:Int)+(im.size:Int):=by rw[IntKind.wrap_u32];omega
 have hmk:=make_mem p p1
 have HSk:Hid (∀w',ref.Touch [] (w.alloc (.cells #[.int .i64 (p:Int),.string im,.int .u32 (k:Int),.int .u32 en,.slice oa na ca,.int .i64 fu,.int .i64 sl,.int .i64 ar] 25)) w'->(fun w'=>w'.cell? ⟨w.heap.size,0,none⟩=some (.int .i64 (p:Int))/\w'.cell? ⟨w.heap.size,1,none⟩=some (.string im)/\w'.cell? ⟨w.heap.size,2,none⟩=some (.int .u32 (k:Int))/\w'.cell? ⟨w.heap.size,3,none⟩=some (.int .u32 en)/\w'.cell? ⟨w.heap.size,4,none⟩=some (.slice oa na ca)) w'):=fun w' t=>by
  exact Xi2
 have HKS:Hid (p*64=k):=hks
 have HKI:Hid (k+im.size<=p*64):=hki
 clear hks ha
 go_enter Tryz.func30,Tryz.ntmps30
 go_wp2_with fail
 go_region_held3 (fun w'=>w'.cell? ⟨w.heap.size,0,none⟩=some (.int .i64 (p:Int))/\w'.cell? ⟨w.heap.size,1,none⟩=some (.string im)/\w'.cell? ⟨w.heap.size,2,none⟩=some (.int .u32 (k:Int))/\w'.cell? ⟨w.heap.size,3,none⟩=some (.int .u32 en)/\w'.cell? ⟨w.heap.size,4,none⟩=some (.slice oa na ca)) (exact HSk.out _ tca) (first|(go_at_call 44;refine(Calls.mono (size_any (p:Int) oM oM _) ?_);rintro e w' ⟨rfl,hw'⟩;subst w'))
 have hks:=HKS.out
 generalize hW:(((((w.alloc (.cells #[.int .i64 (p:Int),.string im,.int .u32 (k:Int),.int .u32 en,.slice oa na ca,.int .i64 fu,.int .i64 sl,.int .i64 ar] 25))).alloc (.cells (madeCells #[.int .u8 0] (p*64)) 5)).alloc (.cells #[.int .u32 0,.int .u32 0,.int .u32 0,.int .u32 0,.int .u32 0,.int .u32 0,.int .u32 0,.int .u32 0,.int .u32 0,.int .u32 0,.int .u32 0,.int .u32 0,.int .u32 0,.int .u32 0,.int .u32 0,.int .u32 0,.int .u32 0,.int .u32 0,.int .u32 0,.int .u32 0,.int .u32 0,.int .u32 0,.int .u32 0,.int .u32 0,.int .u32 0,.int .u32 0,.int .u32 0,.int .u32 0,.int .u32 0,.int .u32 0,.int .u32 0,.int .u32 0,.slice (some ⟨w.heap.size+1,0,none⟩) (p*64) (p*64),.int .u32 en,.int .u32 0,.int .u32 ((k:Int)+im.size),.int .u32 ((k:Int)+im.size),.slice oa na ca,.slice none 0 0,.int .i64 0,.slice none 0 0,.int .i64 0,.int .i64 0,.map none] 91))).drew=W
 have hr0:=new_at p k na ca oa im en fu sl ar ans w
 have hr:PAt w.heap.size (w.heap.size+1+1) (w.heap.size+1) {ref.start (p:Int) im (k:Int) en ans fu sl ar false with mem:=fun _=>0 } 0 (vX3 ((k:Int)+im.size) (.slice none 0 0) (.slice oa na ca) (cacheV 0 0 0 0)) W.drew:=by rw[<-hW];exact⟨hr0.hb,hr0.hmb,hr0.ne,hr0.cells,hr0.data,hr0.free,hr0.bytes,hr0.freem⟩
 have tW:ref.Touch [] w W:=by rw[<-hW];exact((((ref.Touch.refl _ _).alloc _).alloc _).alloc _).drew
 have hSW:(fun w'=>w'.cell? ⟨w.heap.size,0,none⟩=some (.int .i64 (p:Int))/\w'.cell? ⟨w.heap.size,1,none⟩=some (.string im)/\w'.cell? ⟨w.heap.size,2,none⟩=some (.int .u32 (k:Int))/\w'.cell? ⟨w.heap.size,3,none⟩=some (.int .u32 en)/\w'.cell? ⟨w.heap.size,4,none⟩=some (.slice oa na ca)) W:=HSk.out W Xi6
 obtain⟨s0,s1,s2,s3,s4⟩:=hSW
 clear hW hr0 hmk
 have hsz:({ref.start (p:Int) im (k:Int) en ans fu sl ar false with mem:=fun _=>0 }:M).size=p*64:=by simp[ref.start];omega
 have cda:W.cell? ⟨w.heap.size+1+1,32,none⟩=some (.slice (some ⟨w.heap.size+1,0,none⟩) (p*64) (p*64)):=by have:=hr.data;rw[hsz]at this;exact this
 obtain⟨w1,hw1⟩:∃w1,w1=W.drew.setCells (w.heap.size+1) k (ref.strCells im):=⟨_,rfl⟩
 have hrun:∀ty,(Builtin.copy_ #[74,9] ty #[.slice (some ⟨w.heap.size+1,0,none⟩) 0 0,.string im]).run Tryz.prog W.drew=.ok (goInt im.size) w1:=fun ty=>by
  have:=copy_p hr Xi7 k 0 0 0 im Xi7 (fun hp=>by omega) ty
  exact Xi4
 exact Xi1
theorem cacheV_0(ar us:Int)(sb:Nat):cacheV 0 ar us sb=cacheV 0 0 0 0:=by
 funext i
 simp[cacheV,slotsV,mapV]
theorem newq_any(pg:Int)(im:ByteArray)(ba en:Int)(vA:Value)(fu sl ar:Int)(ba0:0<=ba)(ba1:ba<=4294967295)(him:im.size<=1048576)(w:World)(oa:Option Addr)(na ca:Nat)(hvA:vA=.slice oa na ca)(en0:0<=en)(en1:en<=4294967295)(hw:ref.wrong pg im ba fu sl ar false=0)(ans:List ByteArray)(ha:ref.AnsAt w.heap.size ans vA w):
  Calls Tryz.prog 30 #[.agg #[.int .i64 pg,.string im,.int .u32 ba,.int .u32 en,vA,.int .i64 fu,.int .i64 sl,.int .i64 ar]] w fun e w'=>e=.returned (.pointer (some ⟨w.heap.size+1+1,0,none⟩))/\PAt w.heap.size (w.heap.size+1+1) (w.heap.size+1) (ref.start pg im ba en ans fu sl ar false) 0 (vX3 (ba+im.size) (.slice none 0 0) vA (cacheV 0 0 0 0)) w'/\ref.AnsAt w.heap.size ans vA w'/\Below w.heap.size w w':=by
 obtain⟨_,p0,p1,i0,i1,f0,f1⟩:=ref.good_start pg im ba en ans fu sl ar false ba0 en0 en1 hw
 obtain⟨p,rfl⟩:∃p:Nat,pg=p:=⟨pg.toNat,by omega⟩
 obtain⟨k,rfl⟩:∃k:Nat,ba=k:=⟨ba.toNat,by omega⟩
 subst hvA
 by_cases hks:p*64=k
 ·refine(newp_n p k na ca oa im en fu sl ar w oM oM oM hks ans ha).mono ?_
  exact Xi5
 ·refine(newp_y p k na ca oa im en fu sl ar w oM oM oM hks ans ha).mono ?_
  exact Xi5
theorem newp_any(pg:Int)(im:ByteArray)(ba en:Int)(vA:Value)(fu sl ar:Int)(ba0:0<=ba)(ba1:ba<=4294967295)(him:im.size<=1048576)(w:World)(oa:Option Addr)(na ca:Nat)(hvA:vA=.slice oa na ca)(en0:0<=en)(en1:en<=4294967295)(hw:ref.wrong pg im ba fu sl ar false=0)(ans:List ByteArray)(ha:ref.AnsAt w.heap.size ans vA w):
  Calls Tryz.prog 30 #[.agg #[.int .i64 pg,.string im,.int .u32 ba,.int .u32 en,vA,.int .i64 fu,.int .i64 sl,.int .i64 ar]] w fun e w'=>e=.returned (.pointer (some ⟨w.heap.size+1+1,0,none⟩))/\PW w.heap.size w'.heap.size (w.heap.size+1+1) (w.heap.size+1) (w.heap.size+1) (ref.start pg im ba en ans fu sl ar false) 0 (.slice none 0 0) vA w'/\Below w.heap.size w w':=by
 have hg:=(ref.good_start pg im ba en ans fu sl ar false ba0 en0 en1 hw).1
 refine(newq_any pg im ba en vA fu sl ar ba0 ba1 him w oa na ca hvA en0 en1 hw ans ha).mono ?_
 rintro e w' ⟨h1,h2,h3,h4⟩
 refine⟨h1,⟨?_,h4.size,Nat.le_refl _,World.ownsRow_nil _ _ _ _,h3,by simp[ref.sblk],CAt.none _ _ _ _ _ rfl,by omega,World.block_lt_of_cell? _ _ (h2.bytes 0 hg.pos)⟩,h4⟩
 show PAt _ _ _ _ _ (vX3 (ba+im.size) (.slice none 0 0) vA (cacheV 0 _ _ _)) _
 rw[cacheV_0];exact h2
end prog
end Go.Proofs.YtjikimpejlmdiaaGreatDoor

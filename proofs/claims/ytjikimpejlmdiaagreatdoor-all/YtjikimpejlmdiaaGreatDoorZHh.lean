import Derived.Test.YtjikimpejlmdiaaGreatDoorRows
import Derived.WalkKit
import Derived.ProofKit
import Derived.OpenShut
import Derived.BigQuiet
import Derived.Test.YtjikimpejlmdiaaGreatDoorZGa
set_option maxHeartbeats 4000000
set_option linter.unusedVariables false
set_option maxRecDepth 10000
namespace Go.Proofs.YtjikimpejlmdiaaGreatDoor
theorem Xw0{p:Prop}(h:p:=by
 go_enter Tryz.func39,Tryz.ntmps39
 go_wp2
 go_ret
 exact⟨rfl,0,rfl⟩):p:=h
theorem Xw1{p:Prop}(h:p:=by
 go_enter Tryz.func41,Tryz.ntmps41
 go_wp2
 go_ret
 exact⟨rfl,rfl⟩):p:=h
theorem Xw2{p:Prop}(h:p:=by
 by_cases hc:wrap32 a<wrap32 b
 ·go_enter Tryz.func39,Tryz.ntmps39
  go_wp2
  go_ret
  exact⟨ret_int (by show _=(if wrap32 a<wrap32 b then(1:Int)else 0);rw[if_pos hc]),0,rfl⟩
 ·have hc2:wrap32 b<=wrap32 a:=Int.not_lt.mp hc
  go_enter Tryz.func39,Tryz.ntmps39
  go_wp2
  go_ret
  exact⟨ret_int (by show _=(if wrap32 a<wrap32 b then(1:Int)else 0);rw[if_neg (Int.not_lt.mpr hc2)]),0,rfl⟩):p:=h
theorem Xw3{p:Prop}(h:p:=by
 by_cases hc:wrap32 a<wrap32 b
 ·go_enter Tryz.func41,Tryz.ntmps41
  go_wp2
  go_ret
  exact⟨ret_int (by show _=(if wrap32 a<wrap32 b then(1:Int)else 0);rw[if_pos hc]),rfl⟩
 ·have hc2:wrap32 b<=wrap32 a:=Int.not_lt.mp hc
  go_enter Tryz.func41,Tryz.ntmps41
  go_wp2
  go_ret
  exact⟨ret_int (by show _=(if wrap32 a<wrap32 b then(1:Int)else 0);rw[if_neg (Int.not_lt.mpr hc2)]),rfl⟩):p:=h
theorem Xw4{p:Prop}(h:p:=by
 by_cases hc:a<b
 ·go_enter Tryz.func39,Tryz.ntmps39
  go_wp2
  go_ret
  exact⟨ret_int (by show _=(if a<b then(1:Int)else 0);rw[if_pos hc]),0,rfl⟩
 ·have hc2:b<=a:=Int.not_lt.mp hc
  go_enter Tryz.func39,Tryz.ntmps39
  go_wp2
  go_ret
  exact⟨ret_int (by show _=(if a<b then(1:Int)else 0);rw[if_neg (Int.not_lt.mpr hc2)]),0,rfl⟩):p:=h
theorem Xw5{p:Prop}(h:p:=by
 by_cases hc:a<b
 ·go_enter Tryz.func41,Tryz.ntmps41
  go_wp2
  go_ret
  exact⟨ret_int (by show _=(if a<b then(1:Int)else 0);rw[if_pos hc]),rfl⟩
 ·have hc2:b<=a:=Int.not_lt.mp hc
  go_enter Tryz.func41,Tryz.ntmps41
  go_wp2
  go_ret
  exact⟨ret_int (by show _=(if a<b then(1:Int)else 0);rw[if_neg (Int.not_lt.mpr hc2)]),rfl⟩):p:=h
theorem Xw6{p:Prop}(h:p:=by
 go_enter Tryz.func63,Tryz.ntmps63
 go_wp2
 go_quiet (fail)
 go_wp2
 go_ret2
 exact⟨ret_two (by rw[HA.out,w32mod]) HB.out.symm,nq,rfl⟩):p:=h
theorem Xw7{p:Prop}(h:p:=by
 have hs0:=s31_lo b h2 h3
 have hs1:=s31_hi b h2 h3
 exact Xw0):p:=h
theorem Xw8{p:Prop}(h:p:=by
 have hs0:=s31_lo b h2 h3
 have hs1:=s31_hi b h2 h3
 exact Xw1):p:=h
theorem Xw9{p:Prop}(h:p:=by show _=(if b=0 then(4294967295:Int)else a/b);rw[if_neg HB.out]):p:=h
theorem Xwa{p:Prop}(h:p:=by show _=(if b=0 then a else a%b);rw[if_neg HB.out]):p:=h
theorem Xwb{p:Prop}(h:p:=by show _=a*b/4294967296%4294967296;rw[u64hi]):p:=h
namespace computes
open ChangeShapes WideShapes ChangeAt RowKit nums
theorem quot(a b:Int)(h0:0<=a)(h1:a<=4294967295)(h2:0<=b)(h3:b<=4294967295)(hb:¬b=0)(w:World):
  Calls Tryz.prog 63 #[.int .u32 a,.int .u32 b] w fun e w'=>e=.returned (.tuple #[.int .u32 (sdiv a b),.int .u32 (srem a b)])/\∃n,w'=w.drewN n:=by
 by_cases hm:a=2147483648/\b=4294967295
 ·obtain⟨rfl,rfl⟩:=hm
  go_enter Tryz.func63,Tryz.ntmps63
  go_wp2
  go_ret2
  exact⟨ret_two sdiv_least.symm srem_least.symm,0,rfl⟩
 ·have hb2:=w32_ne b h2 h3 hb
  have HA:Hid (sdiv a b=(wrap32 a).tdiv (wrap32 b)%4294967296):=if_neg hb
  have HB:Hid (srem a b=(wrap32 a).tmod (wrap32 b)%4294967296):=if_neg hb
  by_cases ha:a=2147483648
  ·subst ha
   have hc:¬b=4294967295:=fun h=>hm ⟨rfl,h⟩
   clear hm
   exact Xw6
  ·clear hm
   exact Xw6
theorem r18(a b:Int)(h0:0<=a)(h1:a<=4294967295)(h2:0<=b)(h3:b<=4294967295)(w:World):
  Calls Tryz.prog 39 #[.int .i64 18,.int .u32 a,.int .u32 b] w fun e w'=>e=.returned (.int .u32 (comp 18 a b))/\∃n,w'=w.drewN n:=by
 exact Xw0
theorem r19(a b:Int)(h0:0<=a)(h1:a<=4294967295)(h2:0<=b)(h3:b<=4294967295)(w:World):
  Calls Tryz.prog 39 #[.int .i64 19,.int .u32 a,.int .u32 b] w fun e w'=>e=.returned (.int .u32 (comp 19 a b))/\∃n,w'=w.drewN n:=by
 exact Xw2
theorem r20(a b:Int)(h0:0<=a)(h1:a<=4294967295)(h2:0<=b)(h3:b<=4294967295)(w:World):
  Calls Tryz.prog 39 #[.int .i64 20,.int .u32 a,.int .u32 b] w fun e w'=>e=.returned (.int .u32 (comp 20 a b))/\∃n,w'=w.drewN n:=by
 exact Xw4
theorem r21(a b:Int)(h0:0<=a)(h1:a<=4294967295)(h2:0<=b)(h3:b<=4294967295)(w:World):
  Calls Tryz.prog 39 #[.int .i64 21,.int .u32 a,.int .u32 b] w fun e w'=>e=.returned (.int .u32 (comp 21 a b))/\∃n,w'=w.drewN n:=by
 exact Xw0
theorem r22(a b:Int)(h0:0<=a)(h1:a<=4294967295)(h2:0<=b)(h3:b<=4294967295)(w:World):
  Calls Tryz.prog 39 #[.int .i64 22,.int .u32 a,.int .u32 b] w fun e w'=>e=.returned (.int .u32 (comp 22 a b))/\∃n,w'=w.drewN n:=by
 exact Xw0
theorem r23(a b:Int)(h0:0<=a)(h1:a<=4294967295)(h2:0<=b)(h3:b<=4294967295)(w:World):
  Calls Tryz.prog 39 #[.int .i64 23,.int .u32 a,.int .u32 b] w fun e w'=>e=.returned (.int .u32 (comp 23 a b))/\∃n,w'=w.drewN n:=by
 exact Xw0
theorem r24(a b:Int)(h0:0<=a)(h1:a<=4294967295)(h2:0<=b)(h3:b<=4294967295)(w:World):
  Calls Tryz.prog 39 #[.int .i64 24,.int .u32 a,.int .u32 b] w fun e w'=>e=.returned (.int .u32 (comp 24 a b))/\∃n,w'=w.drewN n:=by
 exact Xw7
theorem r25(a b:Int)(h0:0<=a)(h1:a<=4294967295)(h2:0<=b)(h3:b<=4294967295)(w:World):
  Calls Tryz.prog 39 #[.int .i64 25,.int .u32 a,.int .u32 b] w fun e w'=>e=.returned (.int .u32 (comp 25 a b))/\∃n,w'=w.drewN n:=by
 exact Xw7
theorem r26(a b:Int)(h0:0<=a)(h1:a<=4294967295)(h2:0<=b)(h3:b<=4294967295)(w:World):
  Calls Tryz.prog 39 #[.int .i64 26,.int .u32 a,.int .u32 b] w fun e w'=>e=.returned (.int .u32 (comp 26 a b))/\∃n,w'=w.drewN n:=by
 exact Xw7
theorem r27(a b:Int)(h0:0<=a)(h1:a<=4294967295)(h2:0<=b)(h3:b<=4294967295)(w:World):
  Calls Tryz.prog 39 #[.int .i64 27,.int .u32 a,.int .u32 b] w fun e w'=>e=.returned (.int .u32 (comp 27 a b))/\∃n,w'=w.drewN n:=by
 exact Xw0
theorem r28(a b:Int)(h0:0<=a)(h1:a<=4294967295)(h2:0<=b)(h3:b<=4294967295)(w:World):
  Calls Tryz.prog 39 #[.int .i64 28,.int .u32 a,.int .u32 b] w fun e w'=>e=.returned (.int .u32 (comp 28 a b))/\∃n,w'=w.drewN n:=by
 exact Xw0
theorem r29(a b:Int)(h0:0<=a)(h1:a<=4294967295)(h2:0<=b)(h3:b<=4294967295)(w:World):
  Calls Tryz.prog 39 #[.int .i64 29,.int .u32 a,.int .u32 b] w fun e w'=>e=.returned (.int .u32 (comp 29 a b))/\∃n,w'=w.drewN n:=by
 exact Xw7
theorem r30(a b:Int)(h0:0<=a)(h1:a<=4294967295)(h2:0<=b)(h3:b<=4294967295)(w:World):
  Calls Tryz.prog 39 #[.int .i64 30,.int .u32 a,.int .u32 b] w fun e w'=>e=.returned (.int .u32 (comp 30 a b))/\∃n,w'=w.drewN n:=by
 exact Xw2
theorem r31(a b:Int)(h0:0<=a)(h1:a<=4294967295)(h2:0<=b)(h3:b<=4294967295)(w:World):
  Calls Tryz.prog 39 #[.int .i64 31,.int .u32 a,.int .u32 b] w fun e w'=>e=.returned (.int .u32 (comp 31 a b))/\∃n,w'=w.drewN n:=by
 exact Xw4
theorem r32(a b:Int)(h0:0<=a)(h1:a<=4294967295)(h2:0<=b)(h3:b<=4294967295)(w:World):
  Calls Tryz.prog 39 #[.int .i64 32,.int .u32 a,.int .u32 b] w fun e w'=>e=.returned (.int .u32 (comp 32 a b))/\∃n,w'=w.drewN n:=by
 exact Xw0
theorem r33(a b:Int)(h0:0<=a)(h1:a<=4294967295)(h2:0<=b)(h3:b<=4294967295)(w:World):
  Calls Tryz.prog 39 #[.int .i64 33,.int .u32 a,.int .u32 b] w fun e w'=>e=.returned (.int .u32 (comp 33 a b))/\∃n,w'=w.drewN n:=by
 exact Xw7
theorem r34(a b:Int)(h0:0<=a)(h1:a<=4294967295)(h2:0<=b)(h3:b<=4294967295)(w:World):
  Calls Tryz.prog 39 #[.int .i64 34,.int .u32 a,.int .u32 b] w fun e w'=>e=.returned (.int .u32 (comp 34 a b))/\∃n,w'=w.drewN n:=by
 exact Xw7
theorem r35(a b:Int)(h0:0<=a)(h1:a<=4294967295)(h2:0<=b)(h3:b<=4294967295)(w:World):
  Calls Tryz.prog 39 #[.int .i64 35,.int .u32 a,.int .u32 b] w fun e w'=>e=.returned (.int .u32 (comp 35 a b))/\∃n,w'=w.drewN n:=by
 exact Xw0
theorem r36(a b:Int)(h0:0<=a)(h1:a<=4294967295)(h2:0<=b)(h3:b<=4294967295)(w:World):
  Calls Tryz.prog 39 #[.int .i64 36,.int .u32 a,.int .u32 b] w fun e w'=>e=.returned (.int .u32 (comp 36 a b))/\∃n,w'=w.drewN n:=by
 exact Xw0
theorem r37(a b:Int)(h0:0<=a)(h1:a<=4294967295)(h2:0<=b)(h3:b<=4294967295)(w:World):
  Calls Tryz.prog 39 #[.int .i64 37,.int .u32 a,.int .u32 b] w fun e w'=>e=.returned (.int .u32 (comp 37 a b))/\∃n,w'=w.drewN n:=by
 exact Xw0
theorem r38(a b:Int)(h0:0<=a)(h1:a<=4294967295)(h2:0<=b)(h3:b<=4294967295)(w:World):
  Calls Tryz.prog 39 #[.int .i64 38,.int .u32 a,.int .u32 b] w fun e w'=>e=.returned (.int .u32 (comp 38 a b))/\∃n,w'=w.drewN n:=by
 go_enter Tryz.func39,Tryz.ntmps39
 go_wp2
 go_ret
 exact⟨ret_int (by show _=wrap32 a*wrap32 b/4294967296%4294967296;rw[u64w64hi,w64w32,w64w32]),0,rfl⟩
theorem r39(a b:Int)(h0:0<=a)(h1:a<=4294967295)(h2:0<=b)(h3:b<=4294967295)(w:World):
  Calls Tryz.prog 39 #[.int .i64 39,.int .u32 a,.int .u32 b] w fun e w'=>e=.returned (.int .u32 (comp 39 a b))/\∃n,w'=w.drewN n:=by
 go_enter Tryz.func39,Tryz.ntmps39
 go_wp2
 go_ret
 exact⟨ret_int (by show _=wrap32 a*b/4294967296%4294967296;rw[u64w64hi,w64w32]),0,rfl⟩
theorem r40(a b:Int)(h0:0<=a)(h1:a<=4294967295)(h2:0<=b)(h3:b<=4294967295)(w:World):
  Calls Tryz.prog 39 #[.int .i64 40,.int .u32 a,.int .u32 b] w fun e w'=>e=.returned (.int .u32 (comp 40 a b))/\∃n,w'=w.drewN n:=by
 go_enter Tryz.func39,Tryz.ntmps39
 go_wp2
 go_ret
 exact⟨ret_int Xwb,0,rfl⟩
theorem r41(a b:Int)(h0:0<=a)(h1:a<=4294967295)(h2:0<=b)(h3:b<=4294967295)(w:World):
  Calls Tryz.prog 39 #[.int .i64 41,.int .u32 a,.int .u32 b] w fun e w'=>e=.returned (.int .u32 (comp 41 a b))/\∃n,w'=w.drewN n:=by
 by_cases hb:b=0
 ·subst hb
  go_enter Tryz.func39,Tryz.ntmps39
  go_wp2
  go_ret
  exact⟨ret_int (c41z a).symm,0,rfl⟩
 ·go_enter Tryz.func39,Tryz.ntmps39
  go_wp2_with (go_at_call 63;refine(quot a b h0 h1 h2 h3 hb _).mono ?_;rintro e w' ⟨rfl,nq,rfl⟩)
  go_ret
  exact⟨ret_int (c41 a b).symm,nq,rfl⟩
theorem r42(a b:Int)(h0:0<=a)(h1:a<=4294967295)(h2:0<=b)(h3:b<=4294967295)(w:World):
  Calls Tryz.prog 39 #[.int .i64 42,.int .u32 a,.int .u32 b] w fun e w'=>e=.returned (.int .u32 (comp 42 a b))/\∃n,w'=w.drewN n:=by
 by_cases hb:b=0
 ·subst hb
  go_enter Tryz.func39,Tryz.ntmps39
  go_wp2
  go_ret
  exact⟨ret_int (c42z a).symm,0,rfl⟩
 ·have HB:Hid (¬b=0):=hb
  go_enter Tryz.func39,Tryz.ntmps39
  go_wp2
  go_ret
  exact⟨ret_int Xw9,0,rfl⟩
theorem r43(a b:Int)(h0:0<=a)(h1:a<=4294967295)(h2:0<=b)(h3:b<=4294967295)(w:World):
  Calls Tryz.prog 39 #[.int .i64 43,.int .u32 a,.int .u32 b] w fun e w'=>e=.returned (.int .u32 (comp 43 a b))/\∃n,w'=w.drewN n:=by
 by_cases hb:b=0
 ·subst hb
  go_enter Tryz.func39,Tryz.ntmps39
  go_wp2
  go_ret
  exact⟨ret_int (c43z a).symm,0,rfl⟩
 ·go_enter Tryz.func39,Tryz.ntmps39
  go_wp2_with (go_at_call 63;refine(quot a b h0 h1 h2 h3 hb _).mono ?_;rintro e w' ⟨rfl,nq,rfl⟩)
  go_ret
  exact⟨ret_int (c43 a b).symm,nq,rfl⟩
theorem r44(a b:Int)(h0:0<=a)(h1:a<=4294967295)(h2:0<=b)(h3:b<=4294967295)(w:World):
  Calls Tryz.prog 39 #[.int .i64 44,.int .u32 a,.int .u32 b] w fun e w'=>e=.returned (.int .u32 (comp 44 a b))/\∃n,w'=w.drewN n:=by
 by_cases hb:b=0
 ·subst hb
  go_enter Tryz.func39,Tryz.ntmps39
  go_wp2
  go_ret
  exact⟨ret_int (c44z a).symm,0,rfl⟩
 ·have HB:Hid (¬b=0):=hb
  go_enter Tryz.func39,Tryz.ntmps39
  go_wp2
  go_ret
  exact⟨ret_int Xwa,0,rfl⟩
theorem rother(op a b:Int)(h:op<18\/44<op)(h0:0<=a)(h1:a<=4294967295)(h2:0<=b)(h3:b<=4294967295)(w:World):
  Calls Tryz.prog 39 #[.int .i64 op,.int .u32 a,.int .u32 b] w fun e w'=>e=.returned (.int .u32 (comp op a b))/\∃n,w'=w.drewN n:=by
 have hz:=comp_other op a b h
 have HZ:Hid (comp op a b=0):=hz
 clear hz
 go_enter Tryz.func39,Tryz.ntmps39
 go_wp2
 go_ret
 exact⟨ret_int HZ.out.symm,0,rfl⟩
theorem ref_any(op a b:Int)(h0:0<=a)(h1:a<=4294967295)(h2:0<=b)(h3:b<=4294967295)(w:World):
  Calls Tryz.prog 39 #[.int .i64 op,.int .u32 a,.int .u32 b] w fun e w'=>e=.returned (.int .u32 (comp op a b))/\∃n,w'=w.drewN n:=by
 rcases ops_all op with h|rfl|rfl|rfl|rfl|rfl|rfl|rfl|rfl|rfl|rfl|rfl|rfl|rfl|rfl|rfl|rfl|rfl|rfl|rfl|rfl|rfl|rfl|rfl|rfl|rfl|rfl|rfl
 ·exact rother op a b h h0 h1 h2 h3 w
 ·exact r18 a b h0 h1 h2 h3 w
 ·exact r19 a b h0 h1 h2 h3 w
 ·exact r20 a b h0 h1 h2 h3 w
 ·exact r21 a b h0 h1 h2 h3 w
 ·exact r22 a b h0 h1 h2 h3 w
 ·exact r23 a b h0 h1 h2 h3 w
 ·exact r24 a b h0 h1 h2 h3 w
 ·exact r25 a b h0 h1 h2 h3 w
 ·exact r26 a b h0 h1 h2 h3 w
 ·exact r27 a b h0 h1 h2 h3 w
 ·exact r28 a b h0 h1 h2 h3 w
 ·exact r29 a b h0 h1 h2 h3 w
 ·exact r30 a b h0 h1 h2 h3 w
 ·exact r31 a b h0 h1 h2 h3 w
 ·exact r32 a b h0 h1 h2 h3 w
 ·exact r33 a b h0 h1 h2 h3 w
 ·exact r34 a b h0 h1 h2 h3 w
 ·exact r35 a b h0 h1 h2 h3 w
 ·exact r36 a b h0 h1 h2 h3 w
 ·exact r37 a b h0 h1 h2 h3 w
 ·exact r38 a b h0 h1 h2 h3 w
 ·exact r39 a b h0 h1 h2 h3 w
 ·exact r40 a b h0 h1 h2 h3 w
 ·exact r41 a b h0 h1 h2 h3 w
 ·exact r42 a b h0 h1 h2 h3 w
 ·exact r43 a b h0 h1 h2 h3 w
 ·exact r44 a b h0 h1 h2 h3 w
theorem p18(a b:Int)(h0:0<=a)(h1:a<=4294967295)(h2:0<=b)(h3:b<=4294967295)(w:World):
  Calls Tryz.prog 41 #[.int .i64 18,.int .u32 a,.int .u32 b] w fun e w'=>e=.returned (.int .u32 (comp 18 a b))/\w'=w:=by
 exact Xw1
theorem p19(a b:Int)(h0:0<=a)(h1:a<=4294967295)(h2:0<=b)(h3:b<=4294967295)(w:World):
  Calls Tryz.prog 41 #[.int .i64 19,.int .u32 a,.int .u32 b] w fun e w'=>e=.returned (.int .u32 (comp 19 a b))/\w'=w:=by
 exact Xw3
theorem p20(a b:Int)(h0:0<=a)(h1:a<=4294967295)(h2:0<=b)(h3:b<=4294967295)(w:World):
  Calls Tryz.prog 41 #[.int .i64 20,.int .u32 a,.int .u32 b] w fun e w'=>e=.returned (.int .u32 (comp 20 a b))/\w'=w:=by
 exact Xw5
theorem p21(a b:Int)(h0:0<=a)(h1:a<=4294967295)(h2:0<=b)(h3:b<=4294967295)(w:World):
  Calls Tryz.prog 41 #[.int .i64 21,.int .u32 a,.int .u32 b] w fun e w'=>e=.returned (.int .u32 (comp 21 a b))/\w'=w:=by
 exact Xw1
theorem p22(a b:Int)(h0:0<=a)(h1:a<=4294967295)(h2:0<=b)(h3:b<=4294967295)(w:World):
  Calls Tryz.prog 41 #[.int .i64 22,.int .u32 a,.int .u32 b] w fun e w'=>e=.returned (.int .u32 (comp 22 a b))/\w'=w:=by
 exact Xw1
theorem p23(a b:Int)(h0:0<=a)(h1:a<=4294967295)(h2:0<=b)(h3:b<=4294967295)(w:World):
  Calls Tryz.prog 41 #[.int .i64 23,.int .u32 a,.int .u32 b] w fun e w'=>e=.returned (.int .u32 (comp 23 a b))/\w'=w:=by
 exact Xw1
theorem p24(a b:Int)(h0:0<=a)(h1:a<=4294967295)(h2:0<=b)(h3:b<=4294967295)(w:World):
  Calls Tryz.prog 41 #[.int .i64 24,.int .u32 a,.int .u32 b] w fun e w'=>e=.returned (.int .u32 (comp 24 a b))/\w'=w:=by
 exact Xw8
theorem p25(a b:Int)(h0:0<=a)(h1:a<=4294967295)(h2:0<=b)(h3:b<=4294967295)(w:World):
  Calls Tryz.prog 41 #[.int .i64 25,.int .u32 a,.int .u32 b] w fun e w'=>e=.returned (.int .u32 (comp 25 a b))/\w'=w:=by
 exact Xw8
theorem p26(a b:Int)(h0:0<=a)(h1:a<=4294967295)(h2:0<=b)(h3:b<=4294967295)(w:World):
  Calls Tryz.prog 41 #[.int .i64 26,.int .u32 a,.int .u32 b] w fun e w'=>e=.returned (.int .u32 (comp 26 a b))/\w'=w:=by
 exact Xw8
theorem p27(a b:Int)(h0:0<=a)(h1:a<=4294967295)(h2:0<=b)(h3:b<=4294967295)(w:World):
  Calls Tryz.prog 41 #[.int .i64 27,.int .u32 a,.int .u32 b] w fun e w'=>e=.returned (.int .u32 (comp 27 a b))/\w'=w:=by
 exact Xw1
theorem p28(a b:Int)(h0:0<=a)(h1:a<=4294967295)(h2:0<=b)(h3:b<=4294967295)(w:World):
  Calls Tryz.prog 41 #[.int .i64 28,.int .u32 a,.int .u32 b] w fun e w'=>e=.returned (.int .u32 (comp 28 a b))/\w'=w:=by
 exact Xw1
theorem p29(a b:Int)(h0:0<=a)(h1:a<=4294967295)(h2:0<=b)(h3:b<=4294967295)(w:World):
  Calls Tryz.prog 41 #[.int .i64 29,.int .u32 a,.int .u32 b] w fun e w'=>e=.returned (.int .u32 (comp 29 a b))/\w'=w:=by
 exact Xw8
theorem p30(a b:Int)(h0:0<=a)(h1:a<=4294967295)(h2:0<=b)(h3:b<=4294967295)(w:World):
  Calls Tryz.prog 41 #[.int .i64 30,.int .u32 a,.int .u32 b] w fun e w'=>e=.returned (.int .u32 (comp 30 a b))/\w'=w:=by
 exact Xw3
theorem p31(a b:Int)(h0:0<=a)(h1:a<=4294967295)(h2:0<=b)(h3:b<=4294967295)(w:World):
  Calls Tryz.prog 41 #[.int .i64 31,.int .u32 a,.int .u32 b] w fun e w'=>e=.returned (.int .u32 (comp 31 a b))/\w'=w:=by
 exact Xw5
theorem p32(a b:Int)(h0:0<=a)(h1:a<=4294967295)(h2:0<=b)(h3:b<=4294967295)(w:World):
  Calls Tryz.prog 41 #[.int .i64 32,.int .u32 a,.int .u32 b] w fun e w'=>e=.returned (.int .u32 (comp 32 a b))/\w'=w:=by
 exact Xw1
theorem p33(a b:Int)(h0:0<=a)(h1:a<=4294967295)(h2:0<=b)(h3:b<=4294967295)(w:World):
  Calls Tryz.prog 41 #[.int .i64 33,.int .u32 a,.int .u32 b] w fun e w'=>e=.returned (.int .u32 (comp 33 a b))/\w'=w:=by
 exact Xw8
theorem p34(a b:Int)(h0:0<=a)(h1:a<=4294967295)(h2:0<=b)(h3:b<=4294967295)(w:World):
  Calls Tryz.prog 41 #[.int .i64 34,.int .u32 a,.int .u32 b] w fun e w'=>e=.returned (.int .u32 (comp 34 a b))/\w'=w:=by
 exact Xw8
theorem p35(a b:Int)(h0:0<=a)(h1:a<=4294967295)(h2:0<=b)(h3:b<=4294967295)(w:World):
  Calls Tryz.prog 41 #[.int .i64 35,.int .u32 a,.int .u32 b] w fun e w'=>e=.returned (.int .u32 (comp 35 a b))/\w'=w:=by
 exact Xw1
theorem p36(a b:Int)(h0:0<=a)(h1:a<=4294967295)(h2:0<=b)(h3:b<=4294967295)(w:World):
  Calls Tryz.prog 41 #[.int .i64 36,.int .u32 a,.int .u32 b] w fun e w'=>e=.returned (.int .u32 (comp 36 a b))/\w'=w:=by
 exact Xw1
theorem p37(a b:Int)(h0:0<=a)(h1:a<=4294967295)(h2:0<=b)(h3:b<=4294967295)(w:World):
  Calls Tryz.prog 41 #[.int .i64 37,.int .u32 a,.int .u32 b] w fun e w'=>e=.returned (.int .u32 (comp 37 a b))/\w'=w:=by
 exact Xw1
theorem p38(a b:Int)(h0:0<=a)(h1:a<=4294967295)(h2:0<=b)(h3:b<=4294967295)(w:World):
  Calls Tryz.prog 41 #[.int .i64 38,.int .u32 a,.int .u32 b] w fun e w'=>e=.returned (.int .u32 (comp 38 a b))/\w'=w:=by
 go_enter Tryz.func41,Tryz.ntmps41
 go_wp2
 go_ret
 exact⟨ret_int (by show _=wrap32 a*wrap32 b/4294967296%4294967296;rw[w64hi,w64w32,w64w32]),rfl⟩
theorem p39(a b:Int)(h0:0<=a)(h1:a<=4294967295)(h2:0<=b)(h3:b<=4294967295)(w:World):
  Calls Tryz.prog 41 #[.int .i64 39,.int .u32 a,.int .u32 b] w fun e w'=>e=.returned (.int .u32 (comp 39 a b))/\w'=w:=by
 go_enter Tryz.func41,Tryz.ntmps41
 go_wp2
 go_ret
 exact⟨ret_int (by show _=wrap32 a*b/4294967296%4294967296;rw[w64hi,w64w32]),rfl⟩
theorem p40(a b:Int)(h0:0<=a)(h1:a<=4294967295)(h2:0<=b)(h3:b<=4294967295)(w:World):
  Calls Tryz.prog 41 #[.int .i64 40,.int .u32 a,.int .u32 b] w fun e w'=>e=.returned (.int .u32 (comp 40 a b))/\w'=w:=by
 go_enter Tryz.func41,Tryz.ntmps41
 go_wp2
 go_ret
 exact⟨ret_int Xwb,rfl⟩
theorem p41(a b:Int)(h0:0<=a)(h1:a<=4294967295)(h2:0<=b)(h3:b<=4294967295)(w:World):
  Calls Tryz.prog 41 #[.int .i64 41,.int .u32 a,.int .u32 b] w fun e w'=>e=.returned (.int .u32 (comp 41 a b))/\w'=w:=by
 by_cases hb:b=0
 ·subst hb
  go_enter Tryz.func41,Tryz.ntmps41
  go_wp2
  go_ret
  exact⟨ret_int (c41z a).symm,rfl⟩
 ·have HB:Hid (¬b=0):=hb
  have hb2:=w3264_ne b h2 h3 hb
  go_enter Tryz.func41,Tryz.ntmps41
  go_wp2
  go_ret
  exact⟨ret_int (by show _=(if b=0 then(4294967295:Int)else(wrap32 a).tdiv (wrap32 b)%4294967296);rw[if_neg HB.out,w64mod,w64w32,w64w32]),rfl⟩
theorem p42(a b:Int)(h0:0<=a)(h1:a<=4294967295)(h2:0<=b)(h3:b<=4294967295)(w:World):
  Calls Tryz.prog 41 #[.int .i64 42,.int .u32 a,.int .u32 b] w fun e w'=>e=.returned (.int .u32 (comp 42 a b))/\w'=w:=by
 by_cases hb:b=0
 ·subst hb
  go_enter Tryz.func41,Tryz.ntmps41
  go_wp2
  go_ret
  exact⟨ret_int (c42z a).symm,rfl⟩
 ·have HB:Hid (¬b=0):=hb
  go_enter Tryz.func41,Tryz.ntmps41
  go_wp2
  go_ret
  exact⟨ret_int Xw9,rfl⟩
theorem p43(a b:Int)(h0:0<=a)(h1:a<=4294967295)(h2:0<=b)(h3:b<=4294967295)(w:World):
  Calls Tryz.prog 41 #[.int .i64 43,.int .u32 a,.int .u32 b] w fun e w'=>e=.returned (.int .u32 (comp 43 a b))/\w'=w:=by
 by_cases hb:b=0
 ·subst hb
  go_enter Tryz.func41,Tryz.ntmps41
  go_wp2
  go_ret
  exact⟨ret_int (c43z a).symm,rfl⟩
 ·have HB:Hid (¬b=0):=hb
  have hb2:=w3264_ne b h2 h3 hb
  go_enter Tryz.func41,Tryz.ntmps41
  go_wp2
  go_ret
  exact⟨ret_int (by show _=(if b=0 then a else(wrap32 a).tmod (wrap32 b)%4294967296);rw[if_neg HB.out,w64w32,w64w32]),rfl⟩
theorem p44(a b:Int)(h0:0<=a)(h1:a<=4294967295)(h2:0<=b)(h3:b<=4294967295)(w:World):
  Calls Tryz.prog 41 #[.int .i64 44,.int .u32 a,.int .u32 b] w fun e w'=>e=.returned (.int .u32 (comp 44 a b))/\w'=w:=by
 by_cases hb:b=0
 ·subst hb
  go_enter Tryz.func41,Tryz.ntmps41
  go_wp2
  go_ret
  exact⟨ret_int (c44z a).symm,rfl⟩
 ·have HB:Hid (¬b=0):=hb
  go_enter Tryz.func41,Tryz.ntmps41
  go_wp2
  go_ret
  exact⟨ret_int Xwa,rfl⟩
theorem pother(op a b:Int)(h:op<18\/44<op)(h0:0<=a)(h1:a<=4294967295)(h2:0<=b)(h3:b<=4294967295)(w:World):
  Calls Tryz.prog 41 #[.int .i64 op,.int .u32 a,.int .u32 b] w fun e w'=>e=.returned (.int .u32 (comp op a b))/\w'=w:=by
 have hz:=comp_other op a b h
 have HZ:Hid (comp op a b=0):=hz
 clear hz
 go_enter Tryz.func41,Tryz.ntmps41
 go_wp2
 go_ret
 exact⟨ret_int HZ.out.symm,rfl⟩
theorem res_any(op a b:Int)(h0:0<=a)(h1:a<=4294967295)(h2:0<=b)(h3:b<=4294967295)(w:World):
  Calls Tryz.prog 41 #[.int .i64 op,.int .u32 a,.int .u32 b] w fun e w'=>e=.returned (.int .u32 (comp op a b))/\w'=w:=by
 rcases ops_all op with h|rfl|rfl|rfl|rfl|rfl|rfl|rfl|rfl|rfl|rfl|rfl|rfl|rfl|rfl|rfl|rfl|rfl|rfl|rfl|rfl|rfl|rfl|rfl|rfl|rfl|rfl|rfl
 ·exact pother op a b h h0 h1 h2 h3 w
 ·exact p18 a b h0 h1 h2 h3 w
 ·exact p19 a b h0 h1 h2 h3 w
 ·exact p20 a b h0 h1 h2 h3 w
 ·exact p21 a b h0 h1 h2 h3 w
 ·exact p22 a b h0 h1 h2 h3 w
 ·exact p23 a b h0 h1 h2 h3 w
 ·exact p24 a b h0 h1 h2 h3 w
 ·exact p25 a b h0 h1 h2 h3 w
 ·exact p26 a b h0 h1 h2 h3 w
 ·exact p27 a b h0 h1 h2 h3 w
 ·exact p28 a b h0 h1 h2 h3 w
 ·exact p29 a b h0 h1 h2 h3 w
 ·exact p30 a b h0 h1 h2 h3 w
 ·exact p31 a b h0 h1 h2 h3 w
 ·exact p32 a b h0 h1 h2 h3 w
 ·exact p33 a b h0 h1 h2 h3 w
 ·exact p34 a b h0 h1 h2 h3 w
 ·exact p35 a b h0 h1 h2 h3 w
 ·exact p36 a b h0 h1 h2 h3 w
 ·exact p37 a b h0 h1 h2 h3 w
 ·exact p38 a b h0 h1 h2 h3 w
 ·exact p39 a b h0 h1 h2 h3 w
 ·exact p40 a b h0 h1 h2 h3 w
 ·exact p41 a b h0 h1 h2 h3 w
 ·exact p42 a b h0 h1 h2 h3 w
 ·exact p43 a b h0 h1 h2 h3 w
 ·exact p44 a b h0 h1 h2 h3 w
theorem call_any(op a b:Int)(h0:0<=a)(h1:a<=4294967295)(h2:0<=b)(h3:b<=4294967295)(w:World):
  Calls Tryz.prog 28 #[.int .i64 op,.int .u32 a,.int .u32 b] w fun e w'=>e=.returned (.int .u32 (comp op a b))/\w'=w:=by
 go_enter Tryz.func28,Tryz.ntmps28
 go_wp2_with (go_at_call 41;refine(res_any op a b h0 h1 h2 h3 _).mono ?_;rintro e w' ⟨rfl,rfl⟩)
 go_ret
 exact⟨rfl,rfl⟩
end computes
end Go.Proofs.YtjikimpejlmdiaaGreatDoor

import Derived.Test.YtjikimpejlmdiaaGreatDoorZGc
import Derived.WalkSmall
import Derived.Deep.RegionHeld3
import Derived.Deep.DrawnRows
import Derived.Test.YtjikimpejlmdiaaGreatDoorZGe
import Derived.WalkKit
import Derived.ProofKit
import Derived.Below
set_option maxHeartbeats 4000000
set_option linter.unusedVariables false
set_option linter.unusedSimpArgs false
set_option maxRecDepth 10000
namespace Go.Proofs.YtjikimpejlmdiaaGreatDoor
theorem X40{p:Prop}(h:p:=by(repeat' (first|with_reducible exact HB.out|with_reducible apply below_drewN|with_reducible apply Below.drew|with_reducible apply Below.alloc|with_reducible apply Below.setCell))<;>(first|(simp;done)|(simp;omega)|omega)):p:=h
theorem X41{p:Prop}(h:p:=by
 refine bodyPost_ret (v:=raw x) ?_ rfl ⟨rfl, ?_⟩
 ·rw[HD.out];simp[results,Tryz.results98,go_sem]
 ·exact bW):p:=h
theorem X42{p:Prop}(h:p:=by simp[opn,hop,sh,h,h2]):p:=h
theorem X43{p:Prop}(h:p:=by simp[imm,hop,sh,h,h2]):p:=h
theorem X44{p:Prop}(h:p:=by simp[qRd,hasRd,hop]):p:=h
theorem X45{p:Prop}(h:p:=by simp[qR1,hasR1,hop]):p:=h
theorem X46{p:Prop}(h:p:=by simp[qR2,hasR2,hop]):p:=h
namespace decodes
open ChangeShapes WideShapes ChangeAt RowKit dnums
attribute [local go_sem ↓] Go.wp_at_zero Go.wp_at_succ
theorem t13(x:Int):(f3 x=1\/f3 x=5->at8 T13 x=-1)/\(¬f3 x=1->¬f3 x=5->¬at8 T13 x=-1):=by
 unfold at8
 rcases f3_all x with e|e|e|e|e|e|e|e<;>rw[e]<;>simp[T13]
theorem wi_plain(x:Int)(h0:0<=x)(h1:x<=4294967295)(hop:opc x=19)(hm:¬f3 x=1)(hn:¬f3 x=5)(w:World)(hz:3<w.heap.size)(hc:w.cell? ⟨3,(f3 x).toNat,none⟩=some (.int .i64 (at8 T13 x))):
  Calls Tryz.prog 98 #[.int .u32 x] w fun e w'=>e=.returned (raw x)/\Below w.heap.size w w':=by
 have c3:=(f3_bd x).1
 have c4:=(f3_bd x).2
 have c7:=(r2_bd x).1
 have c8:=(r2_bd x).2
 have HD:Hid (raw x=.agg #[.int .i64 (at8 T13 x),.int .i64 (rdf x),.int .i64 (r1 x),.int .i64 0,.int .i32 (immI x)]):=raw_is x _ _ _ _ _ (by simp[opn,hop,hm,hn]) X44 X45 X46 (by simp[imm,hop,hm,hn])
 have ht:=(t13 x).2 hm hn
 have ht2:(at8 T13 x==-1)=false:=by simpa using ht
 have hne:=World.new_ne w _ hc
 have c5:f3 x<8:=by omega
 go_enter Tryz.func98,Tryz.ntmps98
 go_wp2_with (first|(go_at_call 87;refine(l_opcode x h0 h1 _).mono ?_;rintro e w' ⟨rfl,rfl⟩)|(go_at_call 88;refine(l_rd x h0 h1 _).mono ?_;rintro e w' ⟨rfl,rfl⟩)|(go_at_call 92;refine(l_rs1 x h0 h1 _).mono ?_;rintro e w' ⟨rfl,rfl⟩)|(go_at_call 95;refine(l_rs2 x h0 h1 _).mono ?_;rintro e w' ⟨rfl,rfl⟩)|(go_at_call 94;refine(l_funct3 x h0 h1 _).mono ?_;rintro e w' ⟨rfl,rfl⟩)|(go_at_call 89;refine(l_immediateU x h0 h1 _).mono ?_;rintro e w' ⟨rfl,rfl⟩)|(go_at_call 93;refine(l_immediateI x h0 h1 _).mono ?_;rintro e w' ⟨rfl,rfl⟩)|(go_at_call 90;refine(l_immediateJ x h0 h1 _).mono ?_;rintro e w' ⟨rfl,rfl⟩)|(go_at_call 96;refine(l_immediateB x h0 h1 _).mono ?_;rintro e w' ⟨rfl,rfl⟩)|(go_at_call 97;refine(l_immediateS x h0 h1 _).mono ?_;rintro e w' ⟨rfl,rfl⟩))
 go_region_held3 (fun w'=>w'.cell? ⟨3,(f3 x).toNat,none⟩=some (.int .i64 (at8 T13 x))) (go_keep) (first|(go_at_call 87;refine(l_opcode x h0 h1 _).mono ?_;rintro e w' ⟨rfl,rfl⟩)|(go_at_call 88;refine(l_rd x h0 h1 _).mono ?_;rintro e w' ⟨rfl,rfl⟩)|(go_at_call 92;refine(l_rs1 x h0 h1 _).mono ?_;rintro e w' ⟨rfl,rfl⟩)|(go_at_call 95;refine(l_rs2 x h0 h1 _).mono ?_;rintro e w' ⟨rfl,rfl⟩)|(go_at_call 94;refine(l_funct3 x h0 h1 _).mono ?_;rintro e w' ⟨rfl,rfl⟩)|(go_at_call 89;refine(l_immediateU x h0 h1 _).mono ?_;rintro e w' ⟨rfl,rfl⟩)|(go_at_call 93;refine(l_immediateI x h0 h1 _).mono ?_;rintro e w' ⟨rfl,rfl⟩)|(go_at_call 90;refine(l_immediateJ x h0 h1 _).mono ?_;rintro e w' ⟨rfl,rfl⟩)|(go_at_call 96;refine(l_immediateB x h0 h1 _).mono ?_;rintro e w' ⟨rfl,rfl⟩)|(go_at_call 97;refine(l_immediateS x h0 h1 _).mono ?_;rintro e w' ⟨rfl,rfl⟩))
 all_goals
  go_wp2_with (first|(go_at_call 94;refine(l_funct3 x h0 h1 _).mono ?_;rintro e w' ⟨rfl,rfl⟩))
  exact X41
theorem wi_10(x:Int)(h0:0<=x)(h1:x<=4294967295)(hop:opc x=19)(h:f3 x=1)(h2:f7 x=0)(w:World)(hz:3<w.heap.size)(hc:w.cell? ⟨3,(f3 x).toNat,none⟩=some (.int .i64 (at8 T13 x))):
  Calls Tryz.prog 98 #[.int .u32 x] w fun e w'=>e=.returned (raw x)/\Below w.heap.size w w':=by
 have c3:=(f3_bd x).1
 have c4:=(f3_bd x).2
 have c7:=(r2_bd x).1
 have c8:=(r2_bd x).2
 have HD:Hid (raw x=.agg #[.int .i64 24,.int .i64 (rdf x),.int .i64 (r1 x),.int .i64 0,.int .i32 (r2 x)]):=raw_is x _ _ _ _ _ X42 X44 X45 X46 X43
 have ht:=(t13 x).1 oM
 have hc1:w.cell? ⟨3,1,none⟩=some (.int .i64 (-1)):=by rw[h,ht]at hc;exact hc
 clear hc ht
 have hne:=World.new_ne w _ hc1
 have c5:f3 x<8:=by omega
 go_enter Tryz.func98,Tryz.ntmps98
 go_wp2_with (first|(go_at_call 87;refine(l_opcode x h0 h1 _).mono ?_;rintro e w' ⟨rfl,rfl⟩)|(go_at_call 88;refine(l_rd x h0 h1 _).mono ?_;rintro e w' ⟨rfl,rfl⟩)|(go_at_call 92;refine(l_rs1 x h0 h1 _).mono ?_;rintro e w' ⟨rfl,rfl⟩)|(go_at_call 95;refine(l_rs2 x h0 h1 _).mono ?_;rintro e w' ⟨rfl,rfl⟩)|(go_at_call 94;refine(l_funct3 x h0 h1 _).mono ?_;rintro e w' ⟨rfl,rfl⟩)|(go_at_call 89;refine(l_immediateU x h0 h1 _).mono ?_;rintro e w' ⟨rfl,rfl⟩)|(go_at_call 93;refine(l_immediateI x h0 h1 _).mono ?_;rintro e w' ⟨rfl,rfl⟩)|(go_at_call 90;refine(l_immediateJ x h0 h1 _).mono ?_;rintro e w' ⟨rfl,rfl⟩)|(go_at_call 96;refine(l_immediateB x h0 h1 _).mono ?_;rintro e w' ⟨rfl,rfl⟩)|(go_at_call 97;refine(l_immediateS x h0 h1 _).mono ?_;rintro e w' ⟨rfl,rfl⟩))
 go_region_held3 (fun w'=>w'.cell? ⟨3,1,none⟩=some (.int .i64 (-1))) (go_keep) (first|(go_at_call 87;refine(l_opcode x h0 h1 _).mono ?_;rintro e w' ⟨rfl,rfl⟩)|(go_at_call 88;refine(l_rd x h0 h1 _).mono ?_;rintro e w' ⟨rfl,rfl⟩)|(go_at_call 92;refine(l_rs1 x h0 h1 _).mono ?_;rintro e w' ⟨rfl,rfl⟩)|(go_at_call 95;refine(l_rs2 x h0 h1 _).mono ?_;rintro e w' ⟨rfl,rfl⟩)|(go_at_call 94;refine(l_funct3 x h0 h1 _).mono ?_;rintro e w' ⟨rfl,rfl⟩)|(go_at_call 89;refine(l_immediateU x h0 h1 _).mono ?_;rintro e w' ⟨rfl,rfl⟩)|(go_at_call 93;refine(l_immediateI x h0 h1 _).mono ?_;rintro e w' ⟨rfl,rfl⟩)|(go_at_call 90;refine(l_immediateJ x h0 h1 _).mono ?_;rintro e w' ⟨rfl,rfl⟩)|(go_at_call 96;refine(l_immediateB x h0 h1 _).mono ?_;rintro e w' ⟨rfl,rfl⟩)|(go_at_call 97;refine(l_immediateS x h0 h1 _).mono ?_;rintro e w' ⟨rfl,rfl⟩))
 all_goals
  go_wp2_with (first|(go_at_call 94;refine(l_funct3 x h0 h1 _).mono ?_;rintro e w' ⟨rfl,rfl⟩)|(go_at_call 115;refine(shift_10 x h0 h1 h h2 _).mono ?_;rintro e w' ⟨rfl,rfl⟩)|(go_at_call 113;refine(field20 x h0 h1 _).mono ?_;rintro e w' ⟨rfl,rfl⟩))
  exact X41
theorem wi_1n(x:Int)(h0:0<=x)(h1:x<=4294967295)(hop:opc x=19)(h:f3 x=1)(h2:¬f7 x=0)(w:World)(hz:3<w.heap.size)(hc:w.cell? ⟨3,(f3 x).toNat,none⟩=some (.int .i64 (at8 T13 x))):
  Calls Tryz.prog 98 #[.int .u32 x] w fun e w'=>e=.returned (raw x)/\Below w.heap.size w w':=by
 have c3:=(f3_bd x).1
 have c4:=(f3_bd x).2
 have c7:=(r2_bd x).1
 have c8:=(r2_bd x).2
 have HD:Hid (raw x=.agg #[.int .i64 (-1),.int .i64 (rdf x),.int .i64 (r1 x),.int .i64 0,.int .i32 (r2 x)]):=raw_is x _ _ _ _ _ X42 X44 X45 X46 X43
 have ht:=(t13 x).1 oM
 have hc1:w.cell? ⟨3,1,none⟩=some (.int .i64 (-1)):=by rw[h,ht]at hc;exact hc
 clear hc ht
 have hne:=World.new_ne w _ hc1
 have c5:f3 x<8:=by omega
 go_enter Tryz.func98,Tryz.ntmps98
 go_wp2_with (first|(go_at_call 87;refine(l_opcode x h0 h1 _).mono ?_;rintro e w' ⟨rfl,rfl⟩)|(go_at_call 88;refine(l_rd x h0 h1 _).mono ?_;rintro e w' ⟨rfl,rfl⟩)|(go_at_call 92;refine(l_rs1 x h0 h1 _).mono ?_;rintro e w' ⟨rfl,rfl⟩)|(go_at_call 95;refine(l_rs2 x h0 h1 _).mono ?_;rintro e w' ⟨rfl,rfl⟩)|(go_at_call 94;refine(l_funct3 x h0 h1 _).mono ?_;rintro e w' ⟨rfl,rfl⟩)|(go_at_call 89;refine(l_immediateU x h0 h1 _).mono ?_;rintro e w' ⟨rfl,rfl⟩)|(go_at_call 93;refine(l_immediateI x h0 h1 _).mono ?_;rintro e w' ⟨rfl,rfl⟩)|(go_at_call 90;refine(l_immediateJ x h0 h1 _).mono ?_;rintro e w' ⟨rfl,rfl⟩)|(go_at_call 96;refine(l_immediateB x h0 h1 _).mono ?_;rintro e w' ⟨rfl,rfl⟩)|(go_at_call 97;refine(l_immediateS x h0 h1 _).mono ?_;rintro e w' ⟨rfl,rfl⟩))
 go_region_held3 (fun w'=>w'.cell? ⟨3,1,none⟩=some (.int .i64 (-1))) (go_keep) (first|(go_at_call 87;refine(l_opcode x h0 h1 _).mono ?_;rintro e w' ⟨rfl,rfl⟩)|(go_at_call 88;refine(l_rd x h0 h1 _).mono ?_;rintro e w' ⟨rfl,rfl⟩)|(go_at_call 92;refine(l_rs1 x h0 h1 _).mono ?_;rintro e w' ⟨rfl,rfl⟩)|(go_at_call 95;refine(l_rs2 x h0 h1 _).mono ?_;rintro e w' ⟨rfl,rfl⟩)|(go_at_call 94;refine(l_funct3 x h0 h1 _).mono ?_;rintro e w' ⟨rfl,rfl⟩)|(go_at_call 89;refine(l_immediateU x h0 h1 _).mono ?_;rintro e w' ⟨rfl,rfl⟩)|(go_at_call 93;refine(l_immediateI x h0 h1 _).mono ?_;rintro e w' ⟨rfl,rfl⟩)|(go_at_call 90;refine(l_immediateJ x h0 h1 _).mono ?_;rintro e w' ⟨rfl,rfl⟩)|(go_at_call 96;refine(l_immediateB x h0 h1 _).mono ?_;rintro e w' ⟨rfl,rfl⟩)|(go_at_call 97;refine(l_immediateS x h0 h1 _).mono ?_;rintro e w' ⟨rfl,rfl⟩))
 all_goals
  go_wp2_with (first|(go_at_call 94;refine(l_funct3 x h0 h1 _).mono ?_;rintro e w' ⟨rfl,rfl⟩)|(go_at_call 115;refine(shift_1n x h0 h1 h h2 _).mono ?_;rintro e w' ⟨rfl,rfl⟩)|(go_at_call 113;refine(field20 x h0 h1 _).mono ?_;rintro e w' ⟨rfl,rfl⟩))
  exact X41
theorem wi_50(x:Int)(h0:0<=x)(h1:x<=4294967295)(hop:opc x=19)(h:f3 x=5)(h2:f7 x=0)(w:World)(hz:3<w.heap.size)(hc:w.cell? ⟨3,(f3 x).toNat,none⟩=some (.int .i64 (at8 T13 x))):
  Calls Tryz.prog 98 #[.int .u32 x] w fun e w'=>e=.returned (raw x)/\Below w.heap.size w w':=by
 have c3:=(f3_bd x).1
 have c4:=(f3_bd x).2
 have c7:=(r2_bd x).1
 have c8:=(r2_bd x).2
 have HD:Hid (raw x=.agg #[.int .i64 25,.int .i64 (rdf x),.int .i64 (r1 x),.int .i64 0,.int .i32 (r2 x)]):=raw_is x _ _ _ _ _ X42 X44 X45 X46 X43
 have ht:=(t13 x).1 oM
 have hc1:w.cell? ⟨3,5,none⟩=some (.int .i64 (-1)):=by rw[h,ht]at hc;exact hc
 clear hc ht
 have hne:=World.new_ne w _ hc1
 have c5:f3 x<8:=by omega
 go_enter Tryz.func98,Tryz.ntmps98
 go_wp2_with (first|(go_at_call 87;refine(l_opcode x h0 h1 _).mono ?_;rintro e w' ⟨rfl,rfl⟩)|(go_at_call 88;refine(l_rd x h0 h1 _).mono ?_;rintro e w' ⟨rfl,rfl⟩)|(go_at_call 92;refine(l_rs1 x h0 h1 _).mono ?_;rintro e w' ⟨rfl,rfl⟩)|(go_at_call 95;refine(l_rs2 x h0 h1 _).mono ?_;rintro e w' ⟨rfl,rfl⟩)|(go_at_call 94;refine(l_funct3 x h0 h1 _).mono ?_;rintro e w' ⟨rfl,rfl⟩)|(go_at_call 89;refine(l_immediateU x h0 h1 _).mono ?_;rintro e w' ⟨rfl,rfl⟩)|(go_at_call 93;refine(l_immediateI x h0 h1 _).mono ?_;rintro e w' ⟨rfl,rfl⟩)|(go_at_call 90;refine(l_immediateJ x h0 h1 _).mono ?_;rintro e w' ⟨rfl,rfl⟩)|(go_at_call 96;refine(l_immediateB x h0 h1 _).mono ?_;rintro e w' ⟨rfl,rfl⟩)|(go_at_call 97;refine(l_immediateS x h0 h1 _).mono ?_;rintro e w' ⟨rfl,rfl⟩))
 go_region_held3 (fun w'=>w'.cell? ⟨3,5,none⟩=some (.int .i64 (-1))) (go_keep) (first|(go_at_call 87;refine(l_opcode x h0 h1 _).mono ?_;rintro e w' ⟨rfl,rfl⟩)|(go_at_call 88;refine(l_rd x h0 h1 _).mono ?_;rintro e w' ⟨rfl,rfl⟩)|(go_at_call 92;refine(l_rs1 x h0 h1 _).mono ?_;rintro e w' ⟨rfl,rfl⟩)|(go_at_call 95;refine(l_rs2 x h0 h1 _).mono ?_;rintro e w' ⟨rfl,rfl⟩)|(go_at_call 94;refine(l_funct3 x h0 h1 _).mono ?_;rintro e w' ⟨rfl,rfl⟩)|(go_at_call 89;refine(l_immediateU x h0 h1 _).mono ?_;rintro e w' ⟨rfl,rfl⟩)|(go_at_call 93;refine(l_immediateI x h0 h1 _).mono ?_;rintro e w' ⟨rfl,rfl⟩)|(go_at_call 90;refine(l_immediateJ x h0 h1 _).mono ?_;rintro e w' ⟨rfl,rfl⟩)|(go_at_call 96;refine(l_immediateB x h0 h1 _).mono ?_;rintro e w' ⟨rfl,rfl⟩)|(go_at_call 97;refine(l_immediateS x h0 h1 _).mono ?_;rintro e w' ⟨rfl,rfl⟩))
 all_goals
  go_wp2_with (first|(go_at_call 94;refine(l_funct3 x h0 h1 _).mono ?_;rintro e w' ⟨rfl,rfl⟩)|(go_at_call 115;refine(shift_50 x h0 h1 h h2 _).mono ?_;rintro e w' ⟨rfl,rfl⟩)|(go_at_call 113;refine(field20 x h0 h1 _).mono ?_;rintro e w' ⟨rfl,rfl⟩))
  exact X41
theorem wi_5t(x:Int)(h0:0<=x)(h1:x<=4294967295)(hop:opc x=19)(h:f3 x=5)(h2:f7 x=32)(w:World)(hz:3<w.heap.size)(hc:w.cell? ⟨3,(f3 x).toNat,none⟩=some (.int .i64 (at8 T13 x))):
  Calls Tryz.prog 98 #[.int .u32 x] w fun e w'=>e=.returned (raw x)/\Below w.heap.size w w':=by
 have c3:=(f3_bd x).1
 have c4:=(f3_bd x).2
 have c7:=(r2_bd x).1
 have c8:=(r2_bd x).2
 have HD:Hid (raw x=.agg #[.int .i64 26,.int .i64 (rdf x),.int .i64 (r1 x),.int .i64 0,.int .i32 (r2 x)]):=raw_is x _ _ _ _ _ X42 X44 X45 X46 X43
 have ht:=(t13 x).1 oM
 have hc1:w.cell? ⟨3,5,none⟩=some (.int .i64 (-1)):=by rw[h,ht]at hc;exact hc
 clear hc ht
 have hne:=World.new_ne w _ hc1
 have c5:f3 x<8:=by omega
 go_enter Tryz.func98,Tryz.ntmps98
 go_wp2_with (first|(go_at_call 87;refine(l_opcode x h0 h1 _).mono ?_;rintro e w' ⟨rfl,rfl⟩)|(go_at_call 88;refine(l_rd x h0 h1 _).mono ?_;rintro e w' ⟨rfl,rfl⟩)|(go_at_call 92;refine(l_rs1 x h0 h1 _).mono ?_;rintro e w' ⟨rfl,rfl⟩)|(go_at_call 95;refine(l_rs2 x h0 h1 _).mono ?_;rintro e w' ⟨rfl,rfl⟩)|(go_at_call 94;refine(l_funct3 x h0 h1 _).mono ?_;rintro e w' ⟨rfl,rfl⟩)|(go_at_call 89;refine(l_immediateU x h0 h1 _).mono ?_;rintro e w' ⟨rfl,rfl⟩)|(go_at_call 93;refine(l_immediateI x h0 h1 _).mono ?_;rintro e w' ⟨rfl,rfl⟩)|(go_at_call 90;refine(l_immediateJ x h0 h1 _).mono ?_;rintro e w' ⟨rfl,rfl⟩)|(go_at_call 96;refine(l_immediateB x h0 h1 _).mono ?_;rintro e w' ⟨rfl,rfl⟩)|(go_at_call 97;refine(l_immediateS x h0 h1 _).mono ?_;rintro e w' ⟨rfl,rfl⟩))
 go_region_held3 (fun w'=>w'.cell? ⟨3,5,none⟩=some (.int .i64 (-1))) (go_keep) (first|(go_at_call 87;refine(l_opcode x h0 h1 _).mono ?_;rintro e w' ⟨rfl,rfl⟩)|(go_at_call 88;refine(l_rd x h0 h1 _).mono ?_;rintro e w' ⟨rfl,rfl⟩)|(go_at_call 92;refine(l_rs1 x h0 h1 _).mono ?_;rintro e w' ⟨rfl,rfl⟩)|(go_at_call 95;refine(l_rs2 x h0 h1 _).mono ?_;rintro e w' ⟨rfl,rfl⟩)|(go_at_call 94;refine(l_funct3 x h0 h1 _).mono ?_;rintro e w' ⟨rfl,rfl⟩)|(go_at_call 89;refine(l_immediateU x h0 h1 _).mono ?_;rintro e w' ⟨rfl,rfl⟩)|(go_at_call 93;refine(l_immediateI x h0 h1 _).mono ?_;rintro e w' ⟨rfl,rfl⟩)|(go_at_call 90;refine(l_immediateJ x h0 h1 _).mono ?_;rintro e w' ⟨rfl,rfl⟩)|(go_at_call 96;refine(l_immediateB x h0 h1 _).mono ?_;rintro e w' ⟨rfl,rfl⟩)|(go_at_call 97;refine(l_immediateS x h0 h1 _).mono ?_;rintro e w' ⟨rfl,rfl⟩))
 all_goals
  go_wp2_with (first|(go_at_call 94;refine(l_funct3 x h0 h1 _).mono ?_;rintro e w' ⟨rfl,rfl⟩)|(go_at_call 115;refine(shift_5t x h0 h1 h h2 _).mono ?_;rintro e w' ⟨rfl,rfl⟩)|(go_at_call 113;refine(field20 x h0 h1 _).mono ?_;rintro e w' ⟨rfl,rfl⟩))
  exact X41
theorem wi_5n(x:Int)(h0:0<=x)(h1:x<=4294967295)(hop:opc x=19)(h:f3 x=5)(h2:¬f7 x=0)(h3:¬f7 x=32)(w:World)(hz:3<w.heap.size)(hc:w.cell? ⟨3,(f3 x).toNat,none⟩=some (.int .i64 (at8 T13 x))):
  Calls Tryz.prog 98 #[.int .u32 x] w fun e w'=>e=.returned (raw x)/\Below w.heap.size w w':=by
 have c3:=(f3_bd x).1
 have c4:=(f3_bd x).2
 have c7:=(r2_bd x).1
 have c8:=(r2_bd x).2
 have HD:Hid (raw x=.agg #[.int .i64 (-1),.int .i64 (rdf x),.int .i64 (r1 x),.int .i64 0,.int .i32 (r2 x)]):=raw_is x _ _ _ _ _ (by simp[opn,hop,sh,h,h2,h3]) X44 X45 X46 (by simp[imm,hop,sh,h,h2,h3])
 have ht:=(t13 x).1 oM
 have hc1:w.cell? ⟨3,5,none⟩=some (.int .i64 (-1)):=by rw[h,ht]at hc;exact hc
 clear hc ht
 have hne:=World.new_ne w _ hc1
 have c5:f3 x<8:=by omega
 go_enter Tryz.func98,Tryz.ntmps98
 go_wp2_with (first|(go_at_call 87;refine(l_opcode x h0 h1 _).mono ?_;rintro e w' ⟨rfl,rfl⟩)|(go_at_call 88;refine(l_rd x h0 h1 _).mono ?_;rintro e w' ⟨rfl,rfl⟩)|(go_at_call 92;refine(l_rs1 x h0 h1 _).mono ?_;rintro e w' ⟨rfl,rfl⟩)|(go_at_call 95;refine(l_rs2 x h0 h1 _).mono ?_;rintro e w' ⟨rfl,rfl⟩)|(go_at_call 94;refine(l_funct3 x h0 h1 _).mono ?_;rintro e w' ⟨rfl,rfl⟩)|(go_at_call 89;refine(l_immediateU x h0 h1 _).mono ?_;rintro e w' ⟨rfl,rfl⟩)|(go_at_call 93;refine(l_immediateI x h0 h1 _).mono ?_;rintro e w' ⟨rfl,rfl⟩)|(go_at_call 90;refine(l_immediateJ x h0 h1 _).mono ?_;rintro e w' ⟨rfl,rfl⟩)|(go_at_call 96;refine(l_immediateB x h0 h1 _).mono ?_;rintro e w' ⟨rfl,rfl⟩)|(go_at_call 97;refine(l_immediateS x h0 h1 _).mono ?_;rintro e w' ⟨rfl,rfl⟩))
 go_region_held3 (fun w'=>w'.cell? ⟨3,5,none⟩=some (.int .i64 (-1))) (go_keep) (first|(go_at_call 87;refine(l_opcode x h0 h1 _).mono ?_;rintro e w' ⟨rfl,rfl⟩)|(go_at_call 88;refine(l_rd x h0 h1 _).mono ?_;rintro e w' ⟨rfl,rfl⟩)|(go_at_call 92;refine(l_rs1 x h0 h1 _).mono ?_;rintro e w' ⟨rfl,rfl⟩)|(go_at_call 95;refine(l_rs2 x h0 h1 _).mono ?_;rintro e w' ⟨rfl,rfl⟩)|(go_at_call 94;refine(l_funct3 x h0 h1 _).mono ?_;rintro e w' ⟨rfl,rfl⟩)|(go_at_call 89;refine(l_immediateU x h0 h1 _).mono ?_;rintro e w' ⟨rfl,rfl⟩)|(go_at_call 93;refine(l_immediateI x h0 h1 _).mono ?_;rintro e w' ⟨rfl,rfl⟩)|(go_at_call 90;refine(l_immediateJ x h0 h1 _).mono ?_;rintro e w' ⟨rfl,rfl⟩)|(go_at_call 96;refine(l_immediateB x h0 h1 _).mono ?_;rintro e w' ⟨rfl,rfl⟩)|(go_at_call 97;refine(l_immediateS x h0 h1 _).mono ?_;rintro e w' ⟨rfl,rfl⟩))
 all_goals
  go_wp2_with (first|(go_at_call 94;refine(l_funct3 x h0 h1 _).mono ?_;rintro e w' ⟨rfl,rfl⟩)|(go_at_call 115;refine(shift_5n x h0 h1 h h2 h3 _).mono ?_;rintro e w' ⟨rfl,rfl⟩)|(go_at_call 113;refine(field20 x h0 h1 _).mono ?_;rintro e w' ⟨rfl,rfl⟩))
  exact X41
end decodes
namespace decodes
open ChangeShapes WideShapes ChangeAt RowKit dnums
def Tabs (w:World) (x:Int):Prop:=7<=w.heap.size/\w.cell? ⟨0,(f3 x).toNat,none⟩=some (.int .i64 (at8 T63 x))/\w.cell? ⟨1,(f3 x).toNat,none⟩=some (.int .i64 (at8 T03 x))/\w.cell? ⟨2,(f3 x).toNat,none⟩=some (.int .i64 (at8 T23 x))/\w.cell? ⟨3,(f3 x).toNat,none⟩=some (.int .i64 (at8 T13 x))/\w.cell? ⟨4,(f3 x).toNat,none⟩=some (.int .i64 (at8 T330 x))/\w.cell? ⟨5,(f3 x).toNat,none⟩=some (.int .i64 (at8 T3320 x))/\w.cell? ⟨6,(f3 x).toNat,none⟩=some (.int .i64 (at8 T331 x))
theorem Tabs.below {w w1:World}{x:Int}{B:Nat}(h:Tabs w x)(hb:Below B w w1)(hB:7<=B):Tabs w1 x:=by
 obtain⟨hz,t0,t1,t2,t3,t4,t5,t6⟩:=h
 exact⟨Nat.le_trans hz hb.size,(hb.cell (p:=⟨0,_,none⟩) (by omega:0<B)).trans t0,(hb.cell (p:=⟨1,_,none⟩) (by omega:1<B)).trans t1,(hb.cell (p:=⟨2,_,none⟩) (by omega:2<B)).trans t2,(hb.cell (p:=⟨3,_,none⟩) (by omega:3<B)).trans t3,(hb.cell (p:=⟨4,_,none⟩) (by omega:4<B)).trans t4,(hb.cell (p:=⟨5,_,none⟩) (by omega:5<B)).trans t5,(hb.cell (p:=⟨6,_,none⟩) (by omega:6<B)).trans t6⟩
theorem bcell{W w1:World}(hb:Below W.heap.size W w1):(∀b o,b<W.heap.size->w1.cell? ⟨b,o,none⟩=W.cell? ⟨b,o,none⟩)/\(∀b o,b<W.heap.size->w1.frozen? ⟨b,o,none⟩=W.frozen? ⟨b,o,none⟩):=
 ⟨fun b o h=>hb.cell (p:=⟨b,o,none⟩) h,fun b o h=>hb.frozen (p:=⟨b,o,none⟩) h⟩
theorem wi_any(x:Int)(h0:0<=x)(h1:x<=4294967295)(hop:opc x=19)(w:World)(ht:Tabs w x):
  Calls Tryz.prog 98 #[.int .u32 x] w fun e w'=>e=.returned (raw x)/\Below w.heap.size w w':=by
 obtain⟨hz,t0,t1,t2,t3,t4,t5,t6⟩:=ht
 have hz3:3<w.heap.size:=by omega
 by_cases m1:f3 x=1
 ·by_cases k0:f7 x=0
  ·exact wi_10 x h0 h1 hop m1 k0 w hz3 t3
  ·exact wi_1n x h0 h1 hop m1 k0 w hz3 t3
 by_cases m5:f3 x=5
 ·by_cases k0:f7 x=0
  ·exact wi_50 x h0 h1 hop m5 k0 w hz3 t3
  by_cases k32:f7 x=32
  ·exact wi_5t x h0 h1 hop m5 k32 w hz3 t3
  ·exact wi_5n x h0 h1 hop m5 k0 k32 w hz3 t3
 exact wi_plain x h0 h1 hop m1 m5 w hz3 t3
theorem in_13(x:Int)(h0:0<=x)(h1:x<=4294967295)(hop:opc x=19)(w:World)(ht:Tabs w x):
  Calls Tryz.prog 64 #[.int .u32 x] w fun e w'=>e=.returned (raw x)/\Below w.heap.size w w':=by
 have HT:Hid (Tabs (w.alloc (.cells #[.int .i64 0,.int .i64 0,.int .i64 0,.int .i64 0,.int .i32 0] 61)) x):=ht.below (B:=w.heap.size) ((Below.refl _ _).alloc (Nat.le_refl _) _) ht.1
 have hz:=ht.1
 clear ht
 go_enter Tryz.func64,Tryz.ntmps64
 go_wp2_with (first|(go_at_call 87;refine(l_opcode x h0 h1 _).mono ?_;rintro e w' ⟨rfl,rfl⟩))
 refine(wi_any x h0 h1 hop _ HT.out).mono ?_
 rintro e w1 ⟨rfl,hb⟩
 obtain⟨hc',hf'⟩:=bcell hb
 have hs:w.heap.size<w1.heap.size:=by have:=hb.size;simp at this;omega
 have HB:Hid (Below w.heap.size w w1):=((Below.refl _ _).alloc (Nat.le_refl _) _).trans (hb.mono sP)
 clear hb
 unfold raw
 go_wp2_with fail
 refine bodyPost_ret (v:=raw x) ?_ rfl ⟨rfl, ?_⟩
 ·unfold raw;simp[results,Tryz.results64,go_sem,hc',hs]
 ·exact X40
theorem in_any(x:Int)(h0:0<=x)(h1:x<=4294967295)(w:World)(ht:Tabs w x):
  Calls Tryz.prog 64 #[.int .u32 x] w fun e w'=>e=.returned (raw x)/\Below w.heap.size w w':=by
 have ht':=ht
 obtain⟨hz,t_branches,t_loads,t_stores,t_immediates,t_plain,t_opposite,t_products⟩:=ht'
 by_cases n55:opc x=55
 ·exact in_37 x h0 h1 n55 w
 by_cases n23:opc x=23
 ·exact in_17 x h0 h1 n23 w
 by_cases n111:opc x=111
 ·exact in_6F x h0 h1 n111 w
 by_cases n103:opc x=103
 ·by_cases m:f3 x=0
  ·exact in_67y x h0 h1 n103 m w
  ·exact in_67n x h0 h1 n103 m w
 by_cases n99:opc x=99
 ·exact in_63 x h0 h1 n99 w (by omega:0<w.heap.size) t_branches
 by_cases n3:opc x=3
 ·exact in_03 x h0 h1 n3 w (by omega:1<w.heap.size) t_loads
 by_cases n35:opc x=35
 ·exact in_23 x h0 h1 n35 w (by omega:2<w.heap.size) t_stores
 by_cases n19:opc x=19
 ·exact in_13 x h0 h1 n19 w ht
 by_cases n51:opc x=51
 ·by_cases k0:f7 x=0
  ·exact in_330 x h0 h1 n51 k0 w (by omega:4<w.heap.size) t_plain
  by_cases k1:f7 x=1
  ·exact in_331 x h0 h1 n51 k1 w (by omega:6<w.heap.size) t_products
  by_cases k32:f7 x=32
  ·exact in_3320 x h0 h1 n51 k32 w (by omega:5<w.heap.size) t_opposite
  exact in_33n x h0 h1 n51 k0 k1 k32 w
 by_cases n15:opc x=15
 ·by_cases m:f3 x<=1
  ·exact in_0Fy x h0 h1 n15 m w
  ·exact in_0Fn x h0 h1 n15 oM w
 by_cases n115:opc x=115
 ·by_cases x1:x=115
  ·subst x1;exact in_ecall w
  by_cases x2:x=1048691
  ·subst x2;exact in_ebreak w
  exact in_73n x h0 h1 n115 x1 x2 w
 exact in_other x h0 h1 n55 n23 n111 n103 n99 n3 n35 n19 n51 n15 n115 w
theorem word_no(x:Int)(h0:0<=x)(h1:x<=4294967295)(hn:opn x=-1)(w:World)(ht:Tabs w x):
  Calls Tryz.prog 40 #[.int .u32 x] w fun e w'=>e=.returned (dec x)/\Below w.heap.size w w':=by
 have HT:Hid (Tabs (w.alloc (.cells #[.int .i64 0,.int .i64 0,.int .i64 0,.int .i64 0,.int .i32 0] 61)) x):=ht.below (B:=w.heap.size) ((Below.refl _ _).alloc (Nat.le_refl _) _) ht.1
 have hz:=ht.1
 have HD:Hid (dec x=no):=dec_no x hn
 clear ht
 go_enter Tryz.func40,Tryz.ntmps40
 go_wp2_with fail
 refine(in_any x h0 h1 _ HT.out).mono ?_
 rintro e w1 ⟨rfl,hb⟩
 obtain⟨hc',hf'⟩:=bcell hb
 have hs:w.heap.size<w1.heap.size:=by have:=hb.size;simp at this;omega
 have HB:Hid (Below w.heap.size w w1):=((Below.refl _ _).alloc (Nat.le_refl _) _).trans (hb.mono sP)
 clear hb
 unfold raw
 go_wp2_with fail
 refine bodyPost_ret (v:=dec x) ?_ rfl ⟨rfl, ?_⟩
 ·rw[HD.out];simp[results,Tryz.results40,go_sem,hc',hs,no]
 ·exact X40
theorem word_yes(x:Int)(h0:0<=x)(h1:x<=4294967295)(hn:¬opn x=-1)(w:World)(ht:Tabs w x):
  Calls Tryz.prog 40 #[.int .u32 x] w fun e w'=>e=.returned (dec x)/\Below w.heap.size w w':=by
 have HT:Hid (Tabs (w.alloc (.cells #[.int .i64 0,.int .i64 0,.int .i64 0,.int .i64 0,.int .i32 0] 61)) x):=ht.below (B:=w.heap.size) ((Below.refl _ _).alloc (Nat.le_refl _) _) ht.1
 have hz:=ht.1
 have HD:Hid (dec x=ins (opn x) (qRd x) (qR1 x) (qR2 x) (imm x)):=dec_raw x hn
 have hn2:(opn x==-1)=false:=by simpa using hn
 clear ht
 go_enter Tryz.func40,Tryz.ntmps40
 go_wp2_with fail
 refine(in_any x h0 h1 _ HT.out).mono ?_
 rintro e w1 ⟨rfl,hb⟩
 obtain⟨hc',hf'⟩:=bcell hb
 have hs:w.heap.size<w1.heap.size:=by have:=hb.size;simp at this;omega
 have HB:Hid (Below w.heap.size w w1):=((Below.refl _ _).alloc (Nat.le_refl _) _).trans (hb.mono sP)
 clear hb
 unfold raw
 go_wp2_with fail
 refine bodyPost_ret (v:=dec x) ?_ rfl ⟨rfl, ?_⟩
 ·rw[HD.out];simp[results,Tryz.results40,go_sem,hc',hs,ins]
 ·exact X40
theorem word_any(x:Int)(h0:0<=x)(h1:x<=4294967295)(w:World)(ht:Tabs w x):
  Calls Tryz.prog 40 #[.int .u32 x] w fun e w'=>e=.returned (dec x)/\Below w.heap.size w w':=by
 by_cases hn:opn x=-1
 ·exact word_no x h0 h1 hn w ht
 ·exact word_yes x h0 h1 hn w ht
theorem dcall_any(x:Int)(h0:0<=x)(h1:x<=4294967295)(w:World)(ht:Tabs w x):
  Calls Tryz.prog 27 #[.int .u32 x] w fun e w'=>e=.returned (dec x)/\Below w.heap.size w w':=by
 have HT:Hid (Tabs (w.alloc (.cells #[.int .i64 0,.int .i64 0,.int .i64 0,.int .i64 0,.int .i32 0] 61)) x):=ht.below (B:=w.heap.size) ((Below.refl _ _).alloc (Nat.le_refl _) _) ht.1
 have hz:=ht.1
 clear ht
 go_enter Tryz.func27,Tryz.ntmps27
 go_wp2_with fail
 refine(word_any x h0 h1 _ HT.out).mono ?_
 rintro e w1 ⟨rfl,hb⟩
 obtain⟨hc',hf'⟩:=bcell hb
 have hs:w.heap.size<w1.heap.size:=by have:=hb.size;simp at this;omega
 have HB:Hid (Below w.heap.size w w1):=((Below.refl _ _).alloc (Nat.le_refl _) _).trans (hb.mono sP)
 clear hb
 unfold dec
 go_wp2_with fail
 refine bodyPost_ret (v:=dec x) ?_ rfl ⟨rfl, ?_⟩
 ·unfold dec;simp[results,Tryz.results27,go_sem,hc',hs]
 ·exact X40
theorem walkB(x:Int)(h0:0<=x)(h1:x<=4294967295)(w:World)(ht:Tabs w x):
  Calls Tryz.prog 20 #[.int .u32 x] w fun e w'=>e=.returned (.bool true)/\Below w.heap.size w w':=by
 go_enter Tryz.func20,Tryz.ntmps20
 go_wp2_with fail
 refine(dcall_any x h0 h1 _ ht).mono ?_
 rintro e w1 ⟨rfl,hb⟩
 have hs1:=hb.size
 unfold dec
 go_wp2_with fail
 refine(dref_any x h0 h1 _).mono ?_
 rintro e w2 ⟨rfl,hb2⟩
 obtain⟨hc',hf'⟩:=bcell hb2
 have hs2:w1.heap.size<w2.heap.size:=by have:=hb2.size;simp at this;omega
 have HB:Hid (Below w.heap.size w w2):=(hb.alloc hs1 _).trans (hb2.mono (by simp;omega))
 clear hb hb2
 unfold dec
 go_wp2_with fail
 go_ret
 refine⟨rfl, ?_⟩
 exact X40
end decodes
end Go.Proofs.YtjikimpejlmdiaaGreatDoor

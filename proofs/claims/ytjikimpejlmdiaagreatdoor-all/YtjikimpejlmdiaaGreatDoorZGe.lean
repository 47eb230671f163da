import Derived.Test.YtjikimpejlmdiaaGreatDoorZGc
import Derived.WalkSmall
import Derived.Deep.RegionWith
set_option maxHeartbeats 4000000
set_option linter.unusedVariables false
set_option linter.unusedSimpArgs false
set_option maxRecDepth 10000
namespace Go.Proofs.YtjikimpejlmdiaaGreatDoor
theorem X50{p:Prop}(h:p:=by
 rintro e w' ⟨rfl,rfl⟩
 unfold ins
 go_wp2_with fail
 refine bodyPost_ret (v:=dec x) ?_ rfl ⟨rfl, ?_⟩
 ·rw[HD.out];simp[results,Tryz.results38,go_sem,ins]
 ·exact bW):p:=h
theorem X51{p:Prop}(h:p:=by
 go_enter Tryz.func38,Tryz.ntmps38
 go_wp2_with (first|(go_at_call 59;refine(rb_any _ _ _ h0 h1 dC _).mono ?_;rintro e w' ⟨rfl,nq,rfl⟩)|(go_at_call_of 60 (Value.int IntKind.u32 (i20 x));refine(sg_any (i20 x) 12 dC (i20_bd x h0 h1).1 (i20_bd x h0 h1).2 _).mono ?_;rintro e w' ⟨rfl,rfl⟩))
 refine bodyPost_ret (v:=dec x) ?_ rfl ⟨rfl, ?_⟩
 ·rw[HD.out];simp[results,Tryz.results38,go_sem,no]
 ·exact bW):p:=h
theorem X52{p:Prop}(h:p:=by
 refine bodyPost_ret (v:=dec x) ?_ rfl ⟨rfl, ?_⟩
 ·rw[HD.out];simp[results,Tryz.results38,go_sem,ins]
 ·exact bW):p:=h
theorem X53{p:Prop}(h:p:=by
 refine bodyPost_ret (v:=dec x) ?_ rfl ⟨rfl, ?_⟩
 ·rw[HD.out];simp[results,Tryz.results38,go_sem,no]
 ·exact bW):p:=h
theorem X54{p:Prop}(h:p:=by
 have o1:=oU x h0 h1
 go_enter Tryz.func38,Tryz.ntmps38
 go_wp2_with (first|(go_at_call 59;refine(rb_any _ _ _ h0 h1 dC _).mono ?_;rintro e w' ⟨rfl,nq,rfl⟩)|(go_at_call_of 60 (Value.int IntKind.u32 (i20 x));refine(sg_any (i20 x) 12 dC (i20_bd x h0 h1).1 (i20_bd x h0 h1).2 _).mono ?_;rintro e w' ⟨rfl,rfl⟩))
 exact X52):p:=h
theorem X55{p:Prop}(h:p:=by
 rintro e w' ⟨rfl,rfl⟩
 unfold no
 go_wp2_with fail
 exact X53):p:=h
theorem X56{p:Prop}(h:p:=by simp[opn,hop,sh,hm,hn]):p:=h
theorem X57{p:Prop}(h:p:=by simp[imm,hop,sh,hm,hn]):p:=h
theorem X58{p:Prop}(h:p:=by simp[opn,hop,hh]):p:=h
theorem X59{p:Prop}(h:p:=by simp[hasRd,hop]):p:=h
theorem X5a{p:Prop}(h:p:=by simp[hasR1,hop]):p:=h
theorem X5b{p:Prop}(h:p:=by simp[hasR2,hop]):p:=h
theorem X5c{p:Prop}(h:p:=by simp[opn,hop]):p:=h
theorem X5d{p:Prop}(h:p:=by simp[imm,hop]):p:=h
namespace decodes
open ChangeShapes WideShapes ChangeAt RowKit dnums
theorem ref_37(x:Int)(h0:0<=x)(h1:x<=4294967295)(hop:opc x=55)(w:World):
  Calls Tryz.prog 38 #[.int .u32 x] w fun e w'=>e=.returned (dec x)/\Below w.heap.size w w':=by
 have e1:=fe_11_7 x h0 h1
 have e2:=fe_14_12 x h0 h1
 have e3:=fe_19_15 x h0 h1
 have e4:=fe_24_20 x h0 h1
 have e5:=fe_31_25 x h0 h1
 have e6:=(fe_6_0 x h0 h1).trans hop
 have e7:=fe_31_20 x h0 h1
 have e8:=sI x h0 h1
 have b0:=(i20_bd x h0 h1).1
 have b1:=(i20_bd x h0 h1).2
 have c1:=(rdf_bd x).1
 have c2:=(rdf_bd x).2
 have c3:=(f3_bd x).1
 have c4:=(f3_bd x).2
 have c5:=(r1_bd x).1
 have c6:=(r1_bd x).2
 have c7:=(r2_bd x).1
 have c8:=(r2_bd x).2
 have c9:=(f7_bd x h0 h1).1
 have c10:=(f7_bd x h0 h1).2
 have HD:Hid (dec x=ins 0 (rdf x) 0 0 (immU x)):=dec_ins x _ _ _ _ _ X5c dC X59 X5a X5b X5d
 exact X54
theorem ref_17(x:Int)(h0:0<=x)(h1:x<=4294967295)(hop:opc x=23)(w:World):
  Calls Tryz.prog 38 #[.int .u32 x] w fun e w'=>e=.returned (dec x)/\Below w.heap.size w w':=by
 have e1:=fe_11_7 x h0 h1
 have e2:=fe_14_12 x h0 h1
 have e3:=fe_19_15 x h0 h1
 have e4:=fe_24_20 x h0 h1
 have e5:=fe_31_25 x h0 h1
 have e6:=(fe_6_0 x h0 h1).trans hop
 have e7:=fe_31_20 x h0 h1
 have e8:=sI x h0 h1
 have b0:=(i20_bd x h0 h1).1
 have b1:=(i20_bd x h0 h1).2
 have c1:=(rdf_bd x).1
 have c2:=(rdf_bd x).2
 have c3:=(f3_bd x).1
 have c4:=(f3_bd x).2
 have c5:=(r1_bd x).1
 have c6:=(r1_bd x).2
 have c7:=(r2_bd x).1
 have c8:=(r2_bd x).2
 have c9:=(f7_bd x h0 h1).1
 have c10:=(f7_bd x h0 h1).2
 have HD:Hid (dec x=ins 1 (rdf x) 0 0 (immU x)):=dec_ins x _ _ _ _ _ X5c dC X59 X5a X5b X5d
 exact X54
theorem ref_6F(x:Int)(h0:0<=x)(h1:x<=4294967295)(hop:opc x=111)(w:World):
  Calls Tryz.prog 38 #[.int .u32 x] w fun e w'=>e=.returned (dec x)/\Below w.heap.size w w':=by
 have e1:=fe_11_7 x h0 h1
 have e2:=fe_14_12 x h0 h1
 have e3:=fe_19_15 x h0 h1
 have e4:=fe_24_20 x h0 h1
 have e5:=fe_31_25 x h0 h1
 have e6:=(fe_6_0 x h0 h1).trans hop
 have e7:=fe_31_20 x h0 h1
 have e8:=sI x h0 h1
 have b0:=(i20_bd x h0 h1).1
 have b1:=(i20_bd x h0 h1).2
 have c1:=(rdf_bd x).1
 have c2:=(rdf_bd x).2
 have c3:=(f3_bd x).1
 have c4:=(f3_bd x).2
 have c5:=(r1_bd x).1
 have c6:=(r1_bd x).2
 have c7:=(r2_bd x).1
 have c8:=(r2_bd x).2
 have c9:=(f7_bd x h0 h1).1
 have c10:=(f7_bd x h0 h1).2
 have HD:Hid (dec x=ins 2 (rdf x) 0 0 (immJ x)):=dec_ins x _ _ _ _ _ X5c dC X59 X5a X5b X5d
 have o1:=oJ x h0 h1
 have o2:=sJ x h0 h1
 go_enter Tryz.func38,Tryz.ntmps38
 go_wp2_with (first|(go_at_call 59;refine(rb_any _ _ _ h0 h1 dC _).mono ?_;rintro e w' ⟨rfl,nq,rfl⟩)|(go_at_call_of 60 (Value.int IntKind.u32 (i20 x));refine(sg_any (i20 x) 12 dC (i20_bd x h0 h1).1 (i20_bd x h0 h1).2 _).mono ?_;rintro e w' ⟨rfl,rfl⟩)|(go_at_call_of 60 (Value.int IntKind.u32 (vJ x));refine(sg_any (vJ x) 21 dC (vJ_bd x h0 h1).1 (vJ_bd x h0 h1).2 _).mono ?_;rintro e w' ⟨rfl,rfl⟩))
 exact X52
theorem ref_ecall(w:World):
  Calls Tryz.prog 38 #[.int .u32 115] w fun e w'=>e=.returned (dec 115)/\Below w.heap.size w w':=by
 have h0:(0:Int)<=115:=by decide
 have h1:(115:Int)<=4294967295:=by decide
 have hop:opc 115=115:=by decide
 have e1:=fe_11_7 115 h0 h1
 have e2:=fe_14_12 115 h0 h1
 have e3:=fe_19_15 115 h0 h1
 have e4:=fe_24_20 115 h0 h1
 have e5:=fe_31_25 115 h0 h1
 have e6:=(fe_6_0 115 h0 h1).trans hop
 have e7:=fe_31_20 115 h0 h1
 have e8:=sI 115 h0 h1
 have b0:=(i20_bd 115 h0 h1).1
 have b1:=(i20_bd 115 h0 h1).2
 have c1:=(rdf_bd 115).1
 have c2:=(rdf_bd 115).2
 have c3:=(f3_bd 115).1
 have c4:=(f3_bd 115).2
 have c5:=(r1_bd 115).1
 have c6:=(r1_bd 115).2
 have c7:=(r2_bd 115).1
 have c8:=(r2_bd 115).2
 have c9:=(f7_bd 115 h0 h1).1
 have c10:=(f7_bd 115 h0 h1).2
 have HD:Hid (dec 115=ins 46 0 0 0 0):=dec_ins 115 _ _ _ _ _ X5c dC X59 X5a X5b X5d
 go_enter Tryz.func38,Tryz.ntmps38
 go_wp2_with (first|(go_at_call 59;refine(rb_any _ _ _ h0 h1 dC _).mono ?_;rintro e w' ⟨rfl,nq,rfl⟩)|(go_at_call_of 60 (Value.int IntKind.u32 (i20 115));refine(sg_any (i20 115) 12 dC (i20_bd 115 h0 h1).1 (i20_bd 115 h0 h1).2 _).mono ?_;rintro e w' ⟨rfl,rfl⟩))
 refine bodyPost_ret (v:=dec 115) ?_ rfl ⟨rfl, ?_⟩
 ·rw[HD.out];simp[results,Tryz.results38,go_sem,ins]
 ·exact bW
theorem ref_ebreak(w:World):
  Calls Tryz.prog 38 #[.int .u32 1048691] w fun e w'=>e=.returned (dec 1048691)/\Below w.heap.size w w':=by
 have h0:(0:Int)<=1048691:=by decide
 have h1:(1048691:Int)<=4294967295:=by decide
 have hop:opc 1048691=115:=by decide
 have e1:=fe_11_7 1048691 h0 h1
 have e2:=fe_14_12 1048691 h0 h1
 have e3:=fe_19_15 1048691 h0 h1
 have e4:=fe_24_20 1048691 h0 h1
 have e5:=fe_31_25 1048691 h0 h1
 have e6:=(fe_6_0 1048691 h0 h1).trans hop
 have e7:=fe_31_20 1048691 h0 h1
 have e8:=sI 1048691 h0 h1
 have b0:=(i20_bd 1048691 h0 h1).1
 have b1:=(i20_bd 1048691 h0 h1).2
 have c1:=(rdf_bd 1048691).1
 have c2:=(rdf_bd 1048691).2
 have c3:=(f3_bd 1048691).1
 have c4:=(f3_bd 1048691).2
 have c5:=(r1_bd 1048691).1
 have c6:=(r1_bd 1048691).2
 have c7:=(r2_bd 1048691).1
 have c8:=(r2_bd 1048691).2
 have c9:=(f7_bd 1048691 h0 h1).1
 have c10:=(f7_bd 1048691 h0 h1).2
 have HD:Hid (dec 1048691=ins 47 0 0 0 0):=dec_ins 1048691 _ _ _ _ _ X5c dC X59 X5a X5b X5d
 go_enter Tryz.func38,Tryz.ntmps38
 go_wp2_with (first|(go_at_call 59;refine(rb_any _ _ _ h0 h1 dC _).mono ?_;rintro e w' ⟨rfl,nq,rfl⟩)|(go_at_call_of 60 (Value.int IntKind.u32 (i20 1048691));refine(sg_any (i20 1048691) 12 dC (i20_bd 1048691 h0 h1).1 (i20_bd 1048691 h0 h1).2 _).mono ?_;rintro e w' ⟨rfl,rfl⟩))
 refine bodyPost_ret (v:=dec 1048691) ?_ rfl ⟨rfl, ?_⟩
 ·rw[HD.out];simp[results,Tryz.results38,go_sem,ins]
 ·exact bW
theorem ref_73_no(x:Int)(h0:0<=x)(h1:x<=4294967295)(hop:opc x=115)(hx:¬x=115)(hy:¬x=1048691)(w:World):
  Calls Tryz.prog 38 #[.int .u32 x] w fun e w'=>e=.returned (dec x)/\Below w.heap.size w w':=by
 have e1:=fe_11_7 x h0 h1
 have e2:=fe_14_12 x h0 h1
 have e3:=fe_19_15 x h0 h1
 have e4:=fe_24_20 x h0 h1
 have e5:=fe_31_25 x h0 h1
 have e6:=(fe_6_0 x h0 h1).trans hop
 have e7:=fe_31_20 x h0 h1
 have e8:=sI x h0 h1
 have b0:=(i20_bd x h0 h1).1
 have b1:=(i20_bd x h0 h1).2
 have c1:=(rdf_bd x).1
 have c2:=(rdf_bd x).2
 have c3:=(f3_bd x).1
 have c4:=(f3_bd x).2
 have c5:=(r1_bd x).1
 have c6:=(r1_bd x).2
 have c7:=(r2_bd x).1
 have c8:=(r2_bd x).2
 have c9:=(f7_bd x h0 h1).1
 have c10:=(f7_bd x h0 h1).2
 have HD:Hid (dec x=no):=dec_no x (by simp[opn,hop,hx,hy])
 exact X51
theorem ref_67_hit(x:Int)(h0:0<=x)(h1:x<=4294967295)(hop:opc x=103)(hh:¬at8 T67 x=-1)(w:World):
  Calls Tryz.prog 38 #[.int .u32 x] w fun e w'=>e=.returned (dec x)/\Below w.heap.size w w':=by
 have e1:=fe_11_7 x h0 h1
 have e2:=fe_14_12 x h0 h1
 have e3:=fe_19_15 x h0 h1
 have e4:=fe_24_20 x h0 h1
 have e5:=fe_31_25 x h0 h1
 have e6:=(fe_6_0 x h0 h1).trans hop
 have e7:=fe_31_20 x h0 h1
 have e8:=sI x h0 h1
 have b0:=(i20_bd x h0 h1).1
 have b1:=(i20_bd x h0 h1).2
 have c1:=(rdf_bd x).1
 have c2:=(rdf_bd x).2
 have c3:=(f3_bd x).1
 have c4:=(f3_bd x).2
 have c5:=(r1_bd x).1
 have c6:=(r1_bd x).2
 have c7:=(r2_bd x).1
 have c8:=(r2_bd x).2
 have c9:=(f7_bd x h0 h1).1
 have c10:=(f7_bd x h0 h1).2
 have HD:Hid (dec x=ins (at8 T67 x) (rdf x) (r1 x) 0 (immI x)):=dec_ins x _ _ _ _ _ X5c hh X59 X5a X5b X5d
 have HH:Hid (_/\_/\_):=hit_T67 x hh
 clear hh
 go_enter Tryz.func38,Tryz.ntmps38
 go_wp2_with (first|(go_at_call 59;refine(rb_any _ _ _ h0 h1 dC _).mono ?_;rintro e w' ⟨rfl,nq,rfl⟩)|(go_at_call_of 60 (Value.int IntKind.u32 (i20 x));refine(sg_any (i20 x) 12 dC (i20_bd x h0 h1).1 (i20_bd x h0 h1).2 _).mono ?_;rintro e w' ⟨rfl,rfl⟩))
 refine(one_hit (w.heap.size+1) 1 1 (f3 x) (at8 T67 x) 0 (rdf x) (r1 x) 0 (immI x) c3 ?g1 c4 ?g2 _ ?g3 ?g4).mono ?_
 case g1=>have:=HH.out.1;omega
 case g2=>exact HH.out.2.2
 case g3=>simp
 case g4=>rw[World.cell?_alloc_at _ _ _ _ sP];exact HH.out.2.1
 exact X50
theorem ref_67_no(x:Int)(h0:0<=x)(h1:x<=4294967295)(hop:opc x=103)(hh:at8 T67 x=-1)(w:World):
  Calls Tryz.prog 38 #[.int .u32 x] w fun e w'=>e=.returned (dec x)/\Below w.heap.size w w':=by
 have e1:=fe_11_7 x h0 h1
 have e2:=fe_14_12 x h0 h1
 have e3:=fe_19_15 x h0 h1
 have e4:=fe_24_20 x h0 h1
 have e5:=fe_31_25 x h0 h1
 have e6:=(fe_6_0 x h0 h1).trans hop
 have e7:=fe_31_20 x h0 h1
 have e8:=sI x h0 h1
 have b0:=(i20_bd x h0 h1).1
 have b1:=(i20_bd x h0 h1).2
 have c1:=(rdf_bd x).1
 have c2:=(rdf_bd x).2
 have c3:=(f3_bd x).1
 have c4:=(f3_bd x).2
 have c5:=(r1_bd x).1
 have c6:=(r1_bd x).2
 have c7:=(r2_bd x).1
 have c8:=(r2_bd x).2
 have c9:=(f7_bd x h0 h1).1
 have c10:=(f7_bd x h0 h1).2
 have HD:Hid (dec x=no):=dec_no x X58
 have HH:Hid (_\/_):=no_T67 x hh
 clear hh
 go_enter Tryz.func38,Tryz.ntmps38
 go_wp2_with (first|(go_at_call 59;refine(rb_any _ _ _ h0 h1 dC _).mono ?_;rintro e w' ⟨rfl,nq,rfl⟩)|(go_at_call_of 60 (Value.int IntKind.u32 (i20 x));refine(sg_any (i20 x) 12 dC (i20_bd x h0 h1).1 (i20_bd x h0 h1).2 _).mono ?_;rintro e w' ⟨rfl,rfl⟩))
 refine(one_no (w.heap.size+1) 1 1 (f3 x) 0 (rdf x) (r1 x) 0 (immI x) c3 c4 _ ?g3 ?g4).mono ?_
 case g3=>simp
 case g4=>rw[World.cell?_alloc_at _ _ _ _ sP];exact HH.out
 exact X55
theorem ref_67(x:Int)(h0:0<=x)(h1:x<=4294967295)(hop:opc x=103)(w:World):
  Calls Tryz.prog 38 #[.int .u32 x] w fun e w'=>e=.returned (dec x)/\Below w.heap.size w w':=by
 by_cases hh:at8 T67 x=-1
 ·exact ref_67_no x h0 h1 hop hh w
 ·exact ref_67_hit x h0 h1 hop hh w
theorem ref_63_hit(x:Int)(h0:0<=x)(h1:x<=4294967295)(hop:opc x=99)(hh:¬at8 T63 x=-1)(w:World):
  Calls Tryz.prog 38 #[.int .u32 x] w fun e w'=>e=.returned (dec x)/\Below w.heap.size w w':=by
 have e1:=fe_11_7 x h0 h1
 have e2:=fe_14_12 x h0 h1
 have e3:=fe_19_15 x h0 h1
 have e4:=fe_24_20 x h0 h1
 have e5:=fe_31_25 x h0 h1
 have e6:=(fe_6_0 x h0 h1).trans hop
 have e7:=fe_31_20 x h0 h1
 have e8:=sI x h0 h1
 have b0:=(i20_bd x h0 h1).1
 have b1:=(i20_bd x h0 h1).2
 have c1:=(rdf_bd x).1
 have c2:=(rdf_bd x).2
 have c3:=(f3_bd x).1
 have c4:=(f3_bd x).2
 have c5:=(r1_bd x).1
 have c6:=(r1_bd x).2
 have c7:=(r2_bd x).1
 have c8:=(r2_bd x).2
 have c9:=(f7_bd x h0 h1).1
 have c10:=(f7_bd x h0 h1).2
 have HD:Hid (dec x=ins (at8 T63 x) 0 (r1 x) (r2 x) (immB x)):=dec_ins x _ _ _ _ _ X5c hh X59 X5a X5b X5d
 have HH:Hid (_/\_/\_):=hit_T63 x hh
 clear hh
 have o1:=oB x h0 h1
 have o2:=sB x h0 h1
 go_enter Tryz.func38,Tryz.ntmps38
 go_wp2_with (first|(go_at_call 59;refine(rb_any _ _ _ h0 h1 dC _).mono ?_;rintro e w' ⟨rfl,nq,rfl⟩)|(go_at_call_of 60 (Value.int IntKind.u32 (i20 x));refine(sg_any (i20 x) 12 dC (i20_bd x h0 h1).1 (i20_bd x h0 h1).2 _).mono ?_;rintro e w' ⟨rfl,rfl⟩)|(go_at_call_of 60 (Value.int IntKind.u32 (vB x));refine(sg_any (vB x) 13 dC (vB_bd x h0 h1).1 (vB_bd x h0 h1).2 _).mono ?_;rintro e w' ⟨rfl,rfl⟩))
 refine(one_hit (w.heap.size+1) 8 8 (f3 x) (at8 T63 x) 0 0 (r1 x) (r2 x) (immB x) c3 ?g1 c4 ?g2 _ ?g3 ?g4).mono ?_
 case g1=>have:=HH.out.1;omega
 case g2=>exact HH.out.2.2
 case g3=>simp
 case g4=>rw[World.cell?_alloc_at _ _ _ _ sP];exact HH.out.2.1
 exact X50
theorem ref_63_no(x:Int)(h0:0<=x)(h1:x<=4294967295)(hop:opc x=99)(hh:at8 T63 x=-1)(w:World):
  Calls Tryz.prog 38 #[.int .u32 x] w fun e w'=>e=.returned (dec x)/\Below w.heap.size w w':=by
 have e1:=fe_11_7 x h0 h1
 have e2:=fe_14_12 x h0 h1
 have e3:=fe_19_15 x h0 h1
 have e4:=fe_24_20 x h0 h1
 have e5:=fe_31_25 x h0 h1
 have e6:=(fe_6_0 x h0 h1).trans hop
 have e7:=fe_31_20 x h0 h1
 have e8:=sI x h0 h1
 have b0:=(i20_bd x h0 h1).1
 have b1:=(i20_bd x h0 h1).2
 have c1:=(rdf_bd x).1
 have c2:=(rdf_bd x).2
 have c3:=(f3_bd x).1
 have c4:=(f3_bd x).2
 have c5:=(r1_bd x).1
 have c6:=(r1_bd x).2
 have c7:=(r2_bd x).1
 have c8:=(r2_bd x).2
 have c9:=(f7_bd x h0 h1).1
 have c10:=(f7_bd x h0 h1).2
 have HD:Hid (dec x=no):=dec_no x X58
 have HH:Hid (_\/_):=no_T63 x hh
 clear hh
 have o1:=oB x h0 h1
 have o2:=sB x h0 h1
 go_enter Tryz.func38,Tryz.ntmps38
 go_wp2_with (first|(go_at_call 59;refine(rb_any _ _ _ h0 h1 dC _).mono ?_;rintro e w' ⟨rfl,nq,rfl⟩)|(go_at_call_of 60 (Value.int IntKind.u32 (i20 x));refine(sg_any (i20 x) 12 dC (i20_bd x h0 h1).1 (i20_bd x h0 h1).2 _).mono ?_;rintro e w' ⟨rfl,rfl⟩)|(go_at_call_of 60 (Value.int IntKind.u32 (vB x));refine(sg_any (vB x) 13 dC (vB_bd x h0 h1).1 (vB_bd x h0 h1).2 _).mono ?_;rintro e w' ⟨rfl,rfl⟩))
 refine(one_no (w.heap.size+1) 8 8 (f3 x) 0 0 (r1 x) (r2 x) (immB x) c3 c4 _ ?g3 ?g4).mono ?_
 case g3=>simp
 case g4=>rw[World.cell?_alloc_at _ _ _ _ sP];exact HH.out
 exact X55
theorem ref_63(x:Int)(h0:0<=x)(h1:x<=4294967295)(hop:opc x=99)(w:World):
  Calls Tryz.prog 38 #[.int .u32 x] w fun e w'=>e=.returned (dec x)/\Below w.heap.size w w':=by
 by_cases hh:at8 T63 x=-1
 ·exact ref_63_no x h0 h1 hop hh w
 ·exact ref_63_hit x h0 h1 hop hh w
theorem ref_03_hit(x:Int)(h0:0<=x)(h1:x<=4294967295)(hop:opc x=3)(hh:¬at8 T03 x=-1)(w:World):
  Calls Tryz.prog 38 #[.int .u32 x] w fun e w'=>e=.returned (dec x)/\Below w.heap.size w w':=by
 have e1:=fe_11_7 x h0 h1
 have e2:=fe_14_12 x h0 h1
 have e3:=fe_19_15 x h0 h1
 have e4:=fe_24_20 x h0 h1
 have e5:=fe_31_25 x h0 h1
 have e6:=(fe_6_0 x h0 h1).trans hop
 have e7:=fe_31_20 x h0 h1
 have e8:=sI x h0 h1
 have b0:=(i20_bd x h0 h1).1
 have b1:=(i20_bd x h0 h1).2
 have c1:=(rdf_bd x).1
 have c2:=(rdf_bd x).2
 have c3:=(f3_bd x).1
 have c4:=(f3_bd x).2
 have c5:=(r1_bd x).1
 have c6:=(r1_bd x).2
 have c7:=(r2_bd x).1
 have c8:=(r2_bd x).2
 have c9:=(f7_bd x h0 h1).1
 have c10:=(f7_bd x h0 h1).2
 have HD:Hid (dec x=ins (at8 T03 x) (rdf x) (r1 x) 0 (immI x)):=dec_ins x _ _ _ _ _ X5c hh X59 X5a X5b X5d
 have HH:Hid (_/\_/\_):=hit_T03 x hh
 clear hh
 go_enter Tryz.func38,Tryz.ntmps38
 go_wp2_with (first|(go_at_call 59;refine(rb_any _ _ _ h0 h1 dC _).mono ?_;rintro e w' ⟨rfl,nq,rfl⟩)|(go_at_call_of 60 (Value.int IntKind.u32 (i20 x));refine(sg_any (i20 x) 12 dC (i20_bd x h0 h1).1 (i20_bd x h0 h1).2 _).mono ?_;rintro e w' ⟨rfl,rfl⟩))
 refine(one_hit (w.heap.size+1) 6 6 (f3 x) (at8 T03 x) 0 (rdf x) (r1 x) 0 (immI x) c3 ?g1 c4 ?g2 _ ?g3 ?g4).mono ?_
 case g1=>have:=HH.out.1;omega
 case g2=>exact HH.out.2.2
 case g3=>simp
 case g4=>rw[World.cell?_alloc_at _ _ _ _ sP];exact HH.out.2.1
 exact X50
theorem ref_03_no(x:Int)(h0:0<=x)(h1:x<=4294967295)(hop:opc x=3)(hh:at8 T03 x=-1)(w:World):
  Calls Tryz.prog 38 #[.int .u32 x] w fun e w'=>e=.returned (dec x)/\Below w.heap.size w w':=by
 have e1:=fe_11_7 x h0 h1
 have e2:=fe_14_12 x h0 h1
 have e3:=fe_19_15 x h0 h1
 have e4:=fe_24_20 x h0 h1
 have e5:=fe_31_25 x h0 h1
 have e6:=(fe_6_0 x h0 h1).trans hop
 have e7:=fe_31_20 x h0 h1
 have e8:=sI x h0 h1
 have b0:=(i20_bd x h0 h1).1
 have b1:=(i20_bd x h0 h1).2
 have c1:=(rdf_bd x).1
 have c2:=(rdf_bd x).2
 have c3:=(f3_bd x).1
 have c4:=(f3_bd x).2
 have c5:=(r1_bd x).1
 have c6:=(r1_bd x).2
 have c7:=(r2_bd x).1
 have c8:=(r2_bd x).2
 have c9:=(f7_bd x h0 h1).1
 have c10:=(f7_bd x h0 h1).2
 have HD:Hid (dec x=no):=dec_no x X58
 have HH:Hid (_\/_):=no_T03 x hh
 clear hh
 go_enter Tryz.func38,Tryz.ntmps38
 go_wp2_with (first|(go_at_call 59;refine(rb_any _ _ _ h0 h1 dC _).mono ?_;rintro e w' ⟨rfl,nq,rfl⟩)|(go_at_call_of 60 (Value.int IntKind.u32 (i20 x));refine(sg_any (i20 x) 12 dC (i20_bd x h0 h1).1 (i20_bd x h0 h1).2 _).mono ?_;rintro e w' ⟨rfl,rfl⟩))
 refine(one_no (w.heap.size+1) 6 6 (f3 x) 0 (rdf x) (r1 x) 0 (immI x) c3 c4 _ ?g3 ?g4).mono ?_
 case g3=>simp
 case g4=>rw[World.cell?_alloc_at _ _ _ _ sP];exact HH.out
 exact X55
theorem ref_03(x:Int)(h0:0<=x)(h1:x<=4294967295)(hop:opc x=3)(w:World):
  Calls Tryz.prog 38 #[.int .u32 x] w fun e w'=>e=.returned (dec x)/\Below w.heap.size w w':=by
 by_cases hh:at8 T03 x=-1
 ·exact ref_03_no x h0 h1 hop hh w
 ·exact ref_03_hit x h0 h1 hop hh w
theorem ref_23_hit(x:Int)(h0:0<=x)(h1:x<=4294967295)(hop:opc x=35)(hh:¬at8 T23 x=-1)(w:World):
  Calls Tryz.prog 38 #[.int .u32 x] w fun e w'=>e=.returned (dec x)/\Below w.heap.size w w':=by
 have e1:=fe_11_7 x h0 h1
 have e2:=fe_14_12 x h0 h1
 have e3:=fe_19_15 x h0 h1
 have e4:=fe_24_20 x h0 h1
 have e5:=fe_31_25 x h0 h1
 have e6:=(fe_6_0 x h0 h1).trans hop
 have e7:=fe_31_20 x h0 h1
 have e8:=sI x h0 h1
 have b0:=(i20_bd x h0 h1).1
 have b1:=(i20_bd x h0 h1).2
 have c1:=(rdf_bd x).1
 have c2:=(rdf_bd x).2
 have c3:=(f3_bd x).1
 have c4:=(f3_bd x).2
 have c5:=(r1_bd x).1
 have c6:=(r1_bd x).2
 have c7:=(r2_bd x).1
 have c8:=(r2_bd x).2
 have c9:=(f7_bd x h0 h1).1
 have c10:=(f7_bd x h0 h1).2
 have HD:Hid (dec x=ins (at8 T23 x) 0 (r1 x) (r2 x) (immS x)):=dec_ins x _ _ _ _ _ X5c hh X59 X5a X5b X5d
 have HH:Hid (_/\_/\_):=hit_T23 x hh
 clear hh
 have o1:=oS x h0 h1
 have o2:=sS x h0 h1
 go_enter Tryz.func38,Tryz.ntmps38
 go_wp2_with (first|(go_at_call 59;refine(rb_any _ _ _ h0 h1 dC _).mono ?_;rintro e w' ⟨rfl,nq,rfl⟩)|(go_at_call_of 60 (Value.int IntKind.u32 (i20 x));refine(sg_any (i20 x) 12 dC (i20_bd x h0 h1).1 (i20_bd x h0 h1).2 _).mono ?_;rintro e w' ⟨rfl,rfl⟩)|(go_at_call_of 60 (Value.int IntKind.u32 (vS x));refine(sg_any (vS x) 12 dC (vS_bd x h0 h1).1 (vS_bd x h0 h1).2 _).mono ?_;rintro e w' ⟨rfl,rfl⟩))
 refine(one_hit (w.heap.size+1) 3 3 (f3 x) (at8 T23 x) 0 0 (r1 x) (r2 x) (immS x) c3 ?g1 c4 ?g2 _ ?g3 ?g4).mono ?_
 case g1=>have:=HH.out.1;omega
 case g2=>exact HH.out.2.2
 case g3=>simp
 case g4=>rw[World.cell?_alloc_at _ _ _ _ sP];exact HH.out.2.1
 exact X50
theorem ref_23_no(x:Int)(h0:0<=x)(h1:x<=4294967295)(hop:opc x=35)(hh:at8 T23 x=-1)(w:World):
  Calls Tryz.prog 38 #[.int .u32 x] w fun e w'=>e=.returned (dec x)/\Below w.heap.size w w':=by
 have e1:=fe_11_7 x h0 h1
 have e2:=fe_14_12 x h0 h1
 have e3:=fe_19_15 x h0 h1
 have e4:=fe_24_20 x h0 h1
 have e5:=fe_31_25 x h0 h1
 have e6:=(fe_6_0 x h0 h1).trans hop
 have e7:=fe_31_20 x h0 h1
 have e8:=sI x h0 h1
 have b0:=(i20_bd x h0 h1).1
 have b1:=(i20_bd x h0 h1).2
 have c1:=(rdf_bd x).1
 have c2:=(rdf_bd x).2
 have c3:=(f3_bd x).1
 have c4:=(f3_bd x).2
 have c5:=(r1_bd x).1
 have c6:=(r1_bd x).2
 have c7:=(r2_bd x).1
 have c8:=(r2_bd x).2
 have c9:=(f7_bd x h0 h1).1
 have c10:=(f7_bd x h0 h1).2
 have HD:Hid (dec x=no):=dec_no x X58
 have HH:Hid (_\/_):=no_T23 x hh
 clear hh
 have o1:=oS x h0 h1
 have o2:=sS x h0 h1
 go_enter Tryz.func38,Tryz.ntmps38
 go_wp2_with (first|(go_at_call 59;refine(rb_any _ _ _ h0 h1 dC _).mono ?_;rintro e w' ⟨rfl,nq,rfl⟩)|(go_at_call_of 60 (Value.int IntKind.u32 (i20 x));refine(sg_any (i20 x) 12 dC (i20_bd x h0 h1).1 (i20_bd x h0 h1).2 _).mono ?_;rintro e w' ⟨rfl,rfl⟩)|(go_at_call_of 60 (Value.int IntKind.u32 (vS x));refine(sg_any (vS x) 12 dC (vS_bd x h0 h1).1 (vS_bd x h0 h1).2 _).mono ?_;rintro e w' ⟨rfl,rfl⟩))
 refine(one_no (w.heap.size+1) 3 3 (f3 x) 0 0 (r1 x) (r2 x) (immS x) c3 c4 _ ?g3 ?g4).mono ?_
 case g3=>simp
 case g4=>rw[World.cell?_alloc_at _ _ _ _ sP];exact HH.out
 exact X55
theorem ref_23(x:Int)(h0:0<=x)(h1:x<=4294967295)(hop:opc x=35)(w:World):
  Calls Tryz.prog 38 #[.int .u32 x] w fun e w'=>e=.returned (dec x)/\Below w.heap.size w w':=by
 by_cases hh:at8 T23 x=-1
 ·exact ref_23_no x h0 h1 hop hh w
 ·exact ref_23_hit x h0 h1 hop hh w
theorem ref_13_hit(x:Int)(h0:0<=x)(h1:x<=4294967295)(hop:opc x=19)(hm:¬f3 x=1)(hn:¬f3 x=5)(hh:¬at8 T13 x=-1)(w:World):
  Calls Tryz.prog 38 #[.int .u32 x] w fun e w'=>e=.returned (dec x)/\Below w.heap.size w w':=by
 have e1:=fe_11_7 x h0 h1
 have e2:=fe_14_12 x h0 h1
 have e3:=fe_19_15 x h0 h1
 have e4:=fe_24_20 x h0 h1
 have e5:=fe_31_25 x h0 h1
 have e6:=(fe_6_0 x h0 h1).trans hop
 have e7:=fe_31_20 x h0 h1
 have e8:=sI x h0 h1
 have b0:=(i20_bd x h0 h1).1
 have b1:=(i20_bd x h0 h1).2
 have c1:=(rdf_bd x).1
 have c2:=(rdf_bd x).2
 have c3:=(f3_bd x).1
 have c4:=(f3_bd x).2
 have c5:=(r1_bd x).1
 have c6:=(r1_bd x).2
 have c7:=(r2_bd x).1
 have c8:=(r2_bd x).2
 have c9:=(f7_bd x h0 h1).1
 have c10:=(f7_bd x h0 h1).2
 have HD:Hid (dec x=ins (at8 T13 x) (rdf x) (r1 x) 0 (immI x)):=dec_ins x _ _ _ _ _ (by simp[opn,hop,hm,hn]) hh X59 X5a X5b (by simp[imm,hop,hm,hn])
 have HH:Hid (_/\_/\_):=hit_T13 x hh
 clear hh
 have hm2:(f3 x==1)=false:=by simpa using hm
 have hn2:(f3 x==5)=false:=by simpa using hn
 go_enter Tryz.func38,Tryz.ntmps38
 go_wp2_with (first|(go_at_call 59;refine(rb_any _ _ _ h0 h1 dC _).mono ?_;rintro e w' ⟨rfl,nq,rfl⟩)|(go_at_call_of 60 (Value.int IntKind.u32 (i20 x));refine(sg_any (i20 x) 12 dC (i20_bd x h0 h1).1 (i20_bd x h0 h1).2 _).mono ?_;rintro e w' ⟨rfl,rfl⟩))
 refine(one_hit (w.heap.size+1) 8 8 (f3 x) (at8 T13 x) 0 (rdf x) (r1 x) 0 (immI x) c3 ?g1 c4 ?g2 _ ?g3 ?g4).mono ?_
 case g1=>have:=HH.out.1;omega
 case g2=>exact HH.out.2.2
 case g3=>simp
 case g4=>rw[World.cell?_alloc_at _ _ _ _ sP];exact HH.out.2.1
 exact X50
theorem ref_13_no(x:Int)(h0:0<=x)(h1:x<=4294967295)(hop:opc x=19)(hm:¬f3 x=1)(hn:¬f3 x=5)(hh:at8 T13 x=-1)(w:World):
  Calls Tryz.prog 38 #[.int .u32 x] w fun e w'=>e=.returned (dec x)/\Below w.heap.size w w':=by
 have e1:=fe_11_7 x h0 h1
 have e2:=fe_14_12 x h0 h1
 have e3:=fe_19_15 x h0 h1
 have e4:=fe_24_20 x h0 h1
 have e5:=fe_31_25 x h0 h1
 have e6:=(fe_6_0 x h0 h1).trans hop
 have e7:=fe_31_20 x h0 h1
 have e8:=sI x h0 h1
 have b0:=(i20_bd x h0 h1).1
 have b1:=(i20_bd x h0 h1).2
 have c1:=(rdf_bd x).1
 have c2:=(rdf_bd x).2
 have c3:=(f3_bd x).1
 have c4:=(f3_bd x).2
 have c5:=(r1_bd x).1
 have c6:=(r1_bd x).2
 have c7:=(r2_bd x).1
 have c8:=(r2_bd x).2
 have c9:=(f7_bd x h0 h1).1
 have c10:=(f7_bd x h0 h1).2
 have HD:Hid (dec x=no):=dec_no x (by simp[opn,hop,hm,hn,hh])
 have HH:Hid (_\/_):=no_T13 x hh
 clear hh
 have hm2:(f3 x==1)=false:=by simpa using hm
 have hn2:(f3 x==5)=false:=by simpa using hn
 go_enter Tryz.func38,Tryz.ntmps38
 go_wp2_with (first|(go_at_call 59;refine(rb_any _ _ _ h0 h1 dC _).mono ?_;rintro e w' ⟨rfl,nq,rfl⟩)|(go_at_call_of 60 (Value.int IntKind.u32 (i20 x));refine(sg_any (i20 x) 12 dC (i20_bd x h0 h1).1 (i20_bd x h0 h1).2 _).mono ?_;rintro e w' ⟨rfl,rfl⟩))
 refine(one_no (w.heap.size+1) 8 8 (f3 x) 0 (rdf x) (r1 x) 0 (immI x) c3 c4 _ ?g3 ?g4).mono ?_
 case g3=>simp
 case g4=>rw[World.cell?_alloc_at _ _ _ _ sP];exact HH.out
 exact X55
theorem ref_13(x:Int)(h0:0<=x)(h1:x<=4294967295)(hop:opc x=19)(hm:¬f3 x=1)(hn:¬f3 x=5)(w:World):
  Calls Tryz.prog 38 #[.int .u32 x] w fun e w'=>e=.returned (dec x)/\Below w.heap.size w w':=by
 by_cases hh:at8 T13 x=-1
 ·exact ref_13_no x h0 h1 hop hm hn hh w
 ·exact ref_13_hit x h0 h1 hop hm hn hh w
theorem ref_slli(x:Int)(h0:0<=x)(h1:x<=4294967295)(hop:opc x=19)(hm:f3 x=1)(hn:f7 x=0)(w:World):
  Calls Tryz.prog 38 #[.int .u32 x] w fun e w'=>e=.returned (dec x)/\Below w.heap.size w w':=by
 have e1:=fe_11_7 x h0 h1
 have e2:=fe_14_12 x h0 h1
 have e3:=fe_19_15 x h0 h1
 have e4:=fe_24_20 x h0 h1
 have e5:=fe_31_25 x h0 h1
 have e6:=(fe_6_0 x h0 h1).trans hop
 have e7:=fe_31_20 x h0 h1
 have e8:=sI x h0 h1
 have b0:=(i20_bd x h0 h1).1
 have b1:=(i20_bd x h0 h1).2
 have c1:=(rdf_bd x).1
 have c2:=(rdf_bd x).2
 have c3:=(f3_bd x).1
 have c4:=(f3_bd x).2
 have c5:=(r1_bd x).1
 have c6:=(r1_bd x).2
 have c7:=(r2_bd x).1
 have c8:=(r2_bd x).2
 have c9:=(f7_bd x h0 h1).1
 have c10:=(f7_bd x h0 h1).2
 have HD:Hid (dec x=ins 24 (rdf x) (r1 x) 0 (r2 x)):=dec_ins x _ _ _ _ _ X56 dC X59 X5a X5b X57
 go_enter Tryz.func38,Tryz.ntmps38
 go_wp2_with (first|(go_at_call 59;refine(rb_any _ _ _ h0 h1 dC _).mono ?_;rintro e w' ⟨rfl,nq,rfl⟩)|(go_at_call_of 60 (Value.int IntKind.u32 (i20 x));refine(sg_any (i20 x) 12 dC (i20_bd x h0 h1).1 (i20_bd x h0 h1).2 _).mono ?_;rintro e w' ⟨rfl,rfl⟩))
 refine(one_hit (w.heap.size+1) 7 7 1 24 0 (rdf x) (r1 x) 0 (r2 x) dC dC dC dC _ ?g3 ?g4).mono ?_
 case g3=>simp
 case g4=>rw[World.cell?_alloc_at _ _ _ _ sP];rfl
 exact X50
theorem ref_srli(x:Int)(h0:0<=x)(h1:x<=4294967295)(hop:opc x=19)(hm:f3 x=5)(hn:f7 x=0)(w:World):
  Calls Tryz.prog 38 #[.int .u32 x] w fun e w'=>e=.returned (dec x)/\Below w.heap.size w w':=by
 have e1:=fe_11_7 x h0 h1
 have e2:=fe_14_12 x h0 h1
 have e3:=fe_19_15 x h0 h1
 have e4:=fe_24_20 x h0 h1
 have e5:=fe_31_25 x h0 h1
 have e6:=(fe_6_0 x h0 h1).trans hop
 have e7:=fe_31_20 x h0 h1
 have e8:=sI x h0 h1
 have b0:=(i20_bd x h0 h1).1
 have b1:=(i20_bd x h0 h1).2
 have c1:=(rdf_bd x).1
 have c2:=(rdf_bd x).2
 have c3:=(f3_bd x).1
 have c4:=(f3_bd x).2
 have c5:=(r1_bd x).1
 have c6:=(r1_bd x).2
 have c7:=(r2_bd x).1
 have c8:=(r2_bd x).2
 have c9:=(f7_bd x h0 h1).1
 have c10:=(f7_bd x h0 h1).2
 have HD:Hid (dec x=ins 25 (rdf x) (r1 x) 0 (r2 x)):=dec_ins x _ _ _ _ _ X56 dC X59 X5a X5b X57
 go_enter Tryz.func38,Tryz.ntmps38
 go_wp2_with (first|(go_at_call 59;refine(rb_any _ _ _ h0 h1 dC _).mono ?_;rintro e w' ⟨rfl,nq,rfl⟩)|(go_at_call_of 60 (Value.int IntKind.u32 (i20 x));refine(sg_any (i20 x) 12 dC (i20_bd x h0 h1).1 (i20_bd x h0 h1).2 _).mono ?_;rintro e w' ⟨rfl,rfl⟩))
 refine(one_hit (w.heap.size+1) 7 7 5 25 0 (rdf x) (r1 x) 0 (r2 x) dC dC dC dC _ ?g3 ?g4).mono ?_
 case g3=>simp
 case g4=>rw[World.cell?_alloc_at _ _ _ _ sP];rfl
 exact X50
theorem ref_srai(x:Int)(h0:0<=x)(h1:x<=4294967295)(hop:opc x=19)(hm:f3 x=5)(hn:f7 x=32)(w:World):
  Calls Tryz.prog 38 #[.int .u32 x] w fun e w'=>e=.returned (dec x)/\Below w.heap.size w w':=by
 have e1:=fe_11_7 x h0 h1
 have e2:=fe_14_12 x h0 h1
 have e3:=fe_19_15 x h0 h1
 have e4:=fe_24_20 x h0 h1
 have e5:=fe_31_25 x h0 h1
 have e6:=(fe_6_0 x h0 h1).trans hop
 have e7:=fe_31_20 x h0 h1
 have e8:=sI x h0 h1
 have b0:=(i20_bd x h0 h1).1
 have b1:=(i20_bd x h0 h1).2
 have c1:=(rdf_bd x).1
 have c2:=(rdf_bd x).2
 have c3:=(f3_bd x).1
 have c4:=(f3_bd x).2
 have c5:=(r1_bd x).1
 have c6:=(r1_bd x).2
 have c7:=(r2_bd x).1
 have c8:=(r2_bd x).2
 have c9:=(f7_bd x h0 h1).1
 have c10:=(f7_bd x h0 h1).2
 have HD:Hid (dec x=ins 26 (rdf x) (r1 x) 0 (r2 x)):=dec_ins x _ _ _ _ _ X56 dC X59 X5a X5b X57
 go_enter Tryz.func38,Tryz.ntmps38
 go_wp2_with (first|(go_at_call 59;refine(rb_any _ _ _ h0 h1 dC _).mono ?_;rintro e w' ⟨rfl,nq,rfl⟩)|(go_at_call_of 60 (Value.int IntKind.u32 (i20 x));refine(sg_any (i20 x) 12 dC (i20_bd x h0 h1).1 (i20_bd x h0 h1).2 _).mono ?_;rintro e w' ⟨rfl,rfl⟩))
 refine(one_hit (w.heap.size+1) 7 7 6 26 0 (rdf x) (r1 x) 0 (r2 x) dC dC dC dC _ ?g3 ?g4).mono ?_
 case g3=>simp
 case g4=>rw[World.cell?_alloc_at _ _ _ _ sP];rfl
 exact X50
theorem ref_sh1(x:Int)(h0:0<=x)(h1:x<=4294967295)(hop:opc x=19)(hm:f3 x=1)(hn:¬f7 x=0)(w:World):
  Calls Tryz.prog 38 #[.int .u32 x] w fun e w'=>e=.returned (dec x)/\Below w.heap.size w w':=by
 have e1:=fe_11_7 x h0 h1
 have e2:=fe_14_12 x h0 h1
 have e3:=fe_19_15 x h0 h1
 have e4:=fe_24_20 x h0 h1
 have e5:=fe_31_25 x h0 h1
 have e6:=(fe_6_0 x h0 h1).trans hop
 have e7:=fe_31_20 x h0 h1
 have e8:=sI x h0 h1
 have b0:=(i20_bd x h0 h1).1
 have b1:=(i20_bd x h0 h1).2
 have c1:=(rdf_bd x).1
 have c2:=(rdf_bd x).2
 have c3:=(f3_bd x).1
 have c4:=(f3_bd x).2
 have c5:=(r1_bd x).1
 have c6:=(r1_bd x).2
 have c7:=(r2_bd x).1
 have c8:=(r2_bd x).2
 have c9:=(f7_bd x h0 h1).1
 have c10:=(f7_bd x h0 h1).2
 have HD:Hid (dec x=no):=dec_no x X56
 exact X51
theorem ref_sh5(x:Int)(h0:0<=x)(h1:x<=4294967295)(hop:opc x=19)(hm:f3 x=5)(hn:¬f7 x=0)(hk:¬f7 x=32)(w:World):
  Calls Tryz.prog 38 #[.int .u32 x] w fun e w'=>e=.returned (dec x)/\Below w.heap.size w w':=by
 have e1:=fe_11_7 x h0 h1
 have e2:=fe_14_12 x h0 h1
 have e3:=fe_19_15 x h0 h1
 have e4:=fe_24_20 x h0 h1
 have e5:=fe_31_25 x h0 h1
 have e6:=(fe_6_0 x h0 h1).trans hop
 have e7:=fe_31_20 x h0 h1
 have e8:=sI x h0 h1
 have b0:=(i20_bd x h0 h1).1
 have b1:=(i20_bd x h0 h1).2
 have c1:=(rdf_bd x).1
 have c2:=(rdf_bd x).2
 have c3:=(f3_bd x).1
 have c4:=(f3_bd x).2
 have c5:=(r1_bd x).1
 have c6:=(r1_bd x).2
 have c7:=(r2_bd x).1
 have c8:=(r2_bd x).2
 have c9:=(f7_bd x h0 h1).1
 have c10:=(f7_bd x h0 h1).2
 have HD:Hid (dec x=no):=dec_no x (by simp[opn,hop,sh,hm,hn,hk])
 exact X51
theorem ref_330_hit(x:Int)(h0:0<=x)(h1:x<=4294967295)(hop:opc x=51)(hm:f7 x=0)(hh:¬at8 T330 x=-1)(w:World):
  Calls Tryz.prog 38 #[.int .u32 x] w fun e w'=>e=.returned (dec x)/\Below w.heap.size w w':=by
 have e1:=fe_11_7 x h0 h1
 have e2:=fe_14_12 x h0 h1
 have e3:=fe_19_15 x h0 h1
 have e4:=fe_24_20 x h0 h1
 have e5:=fe_31_25 x h0 h1
 have e6:=(fe_6_0 x h0 h1).trans hop
 have e7:=fe_31_20 x h0 h1
 have e8:=sI x h0 h1
 have b0:=(i20_bd x h0 h1).1
 have b1:=(i20_bd x h0 h1).2
 have c1:=(rdf_bd x).1
 have c2:=(rdf_bd x).2
 have c3:=(f3_bd x).1
 have c4:=(f3_bd x).2
 have c5:=(r1_bd x).1
 have c6:=(r1_bd x).2
 have c7:=(r2_bd x).1
 have c8:=(r2_bd x).2
 have c9:=(f7_bd x h0 h1).1
 have c10:=(f7_bd x h0 h1).2
 have HD:Hid (dec x=ins (at8 T330 x) (rdf x) (r1 x) (r2 x) 0):=dec_ins x _ _ _ _ _ (by simp[opn,hop,hm]) hh X59 X5a X5b (by simp[imm,hop,hm])
 have HH:Hid (_/\_/\_):=hit_T330 x hh
 clear hh
 go_enter Tryz.func38,Tryz.ntmps38
 go_wp2_with (first|(go_at_call 59;refine(rb_any _ _ _ h0 h1 dC _).mono ?_;rintro e w' ⟨rfl,nq,rfl⟩)|(go_at_call_of 60 (Value.int IntKind.u32 (i20 x));refine(sg_any (i20 x) 12 dC (i20_bd x h0 h1).1 (i20_bd x h0 h1).2 _).mono ?_;rintro e w' ⟨rfl,rfl⟩))
 refine(one_hit (w.heap.size+1+1) 8 8 (f3 x) (at8 T330 x) 0 (rdf x) (r1 x) (r2 x) 0 c3 ?g1 c4 ?g2 _ ?g3 ?g4).mono ?_
 case g1=>have:=HH.out.1;omega
 case g2=>exact HH.out.2.2
 case g3=>simp
 case g4=>rw[World.cell?_alloc_at _ _ _ _ sP];exact HH.out.2.1
 exact X50
theorem ref_330(x:Int)(h0:0<=x)(h1:x<=4294967295)(hop:opc x=51)(hm:f7 x=0)(w:World):
  Calls Tryz.prog 38 #[.int .u32 x] w fun e w'=>e=.returned (dec x)/\Below w.heap.size w w':=
 ref_330_hit x h0 h1 hop hm (all_T330 x) w
theorem ref_331_hit(x:Int)(h0:0<=x)(h1:x<=4294967295)(hop:opc x=51)(hm:f7 x=1)(hh:¬at8 T331 x=-1)(w:World):
  Calls Tryz.prog 38 #[.int .u32 x] w fun e w'=>e=.returned (dec x)/\Below w.heap.size w w':=by
 have e1:=fe_11_7 x h0 h1
 have e2:=fe_14_12 x h0 h1
 have e3:=fe_19_15 x h0 h1
 have e4:=fe_24_20 x h0 h1
 have e5:=fe_31_25 x h0 h1
 have e6:=(fe_6_0 x h0 h1).trans hop
 have e7:=fe_31_20 x h0 h1
 have e8:=sI x h0 h1
 have b0:=(i20_bd x h0 h1).1
 have b1:=(i20_bd x h0 h1).2
 have c1:=(rdf_bd x).1
 have c2:=(rdf_bd x).2
 have c3:=(f3_bd x).1
 have c4:=(f3_bd x).2
 have c5:=(r1_bd x).1
 have c6:=(r1_bd x).2
 have c7:=(r2_bd x).1
 have c8:=(r2_bd x).2
 have c9:=(f7_bd x h0 h1).1
 have c10:=(f7_bd x h0 h1).2
 have HD:Hid (dec x=ins (at8 T331 x) (rdf x) (r1 x) (r2 x) 0):=dec_ins x _ _ _ _ _ (by simp[opn,hop,hm]) hh X59 X5a X5b (by simp[imm,hop,hm])
 have HH:Hid (_/\_/\_):=hit_T331 x hh
 clear hh
 go_enter Tryz.func38,Tryz.ntmps38
 go_wp2_with (first|(go_at_call 59;refine(rb_any _ _ _ h0 h1 dC _).mono ?_;rintro e w' ⟨rfl,nq,rfl⟩)|(go_at_call_of 60 (Value.int IntKind.u32 (i20 x));refine(sg_any (i20 x) 12 dC (i20_bd x h0 h1).1 (i20_bd x h0 h1).2 _).mono ?_;rintro e w' ⟨rfl,rfl⟩))
 refine(one_hit (w.heap.size+1+1) 8 8 (f3 x) (at8 T331 x) 0 (rdf x) (r1 x) (r2 x) 0 c3 ?g1 c4 ?g2 _ ?g3 ?g4).mono ?_
 case g1=>have:=HH.out.1;omega
 case g2=>exact HH.out.2.2
 case g3=>simp
 case g4=>rw[World.cell?_alloc_at _ _ _ _ sP];exact HH.out.2.1
 exact X50
theorem ref_331(x:Int)(h0:0<=x)(h1:x<=4294967295)(hop:opc x=51)(hm:f7 x=1)(w:World):
  Calls Tryz.prog 38 #[.int .u32 x] w fun e w'=>e=.returned (dec x)/\Below w.heap.size w w':=
 ref_331_hit x h0 h1 hop hm (all_T331 x) w
theorem ref_3320_hit(x:Int)(h0:0<=x)(h1:x<=4294967295)(hop:opc x=51)(hm:f7 x=32)(hh:¬at8 T3320 x=-1)(w:World):
  Calls Tryz.prog 38 #[.int .u32 x] w fun e w'=>e=.returned (dec x)/\Below w.heap.size w w':=by
 have e1:=fe_11_7 x h0 h1
 have e2:=fe_14_12 x h0 h1
 have e3:=fe_19_15 x h0 h1
 have e4:=fe_24_20 x h0 h1
 have e5:=fe_31_25 x h0 h1
 have e6:=(fe_6_0 x h0 h1).trans hop
 have e7:=fe_31_20 x h0 h1
 have e8:=sI x h0 h1
 have b0:=(i20_bd x h0 h1).1
 have b1:=(i20_bd x h0 h1).2
 have c1:=(rdf_bd x).1
 have c2:=(rdf_bd x).2
 have c3:=(f3_bd x).1
 have c4:=(f3_bd x).2
 have c5:=(r1_bd x).1
 have c6:=(r1_bd x).2
 have c7:=(r2_bd x).1
 have c8:=(r2_bd x).2
 have c9:=(f7_bd x h0 h1).1
 have c10:=(f7_bd x h0 h1).2
 have HD:Hid (dec x=ins (at8 T3320 x) (rdf x) (r1 x) (r2 x) 0):=dec_ins x _ _ _ _ _ (by simp[opn,hop,hm]) hh X59 X5a X5b (by simp[imm,hop,hm])
 have HH:Hid (_/\_/\_):=hit_T3320 x hh
 clear hh
 go_enter Tryz.func38,Tryz.ntmps38
 go_wp2_with (first|(go_at_call 59;refine(rb_any _ _ _ h0 h1 dC _).mono ?_;rintro e w' ⟨rfl,nq,rfl⟩)|(go_at_call_of 60 (Value.int IntKind.u32 (i20 x));refine(sg_any (i20 x) 12 dC (i20_bd x h0 h1).1 (i20_bd x h0 h1).2 _).mono ?_;rintro e w' ⟨rfl,rfl⟩))
 refine(one_hit (w.heap.size+1+1) 6 6 (f3 x) (at8 T3320 x) 0 (rdf x) (r1 x) (r2 x) 0 c3 ?g1 c4 ?g2 _ ?g3 ?g4).mono ?_
 case g1=>have:=HH.out.1;omega
 case g2=>exact HH.out.2.2
 case g3=>simp
 case g4=>rw[World.cell?_alloc_at _ _ _ _ sP];exact HH.out.2.1
 exact X50
theorem ref_3320_no(x:Int)(h0:0<=x)(h1:x<=4294967295)(hop:opc x=51)(hm:f7 x=32)(hh:at8 T3320 x=-1)(w:World):
  Calls Tryz.prog 38 #[.int .u32 x] w fun e w'=>e=.returned (dec x)/\Below w.heap.size w w':=by
 have e1:=fe_11_7 x h0 h1
 have e2:=fe_14_12 x h0 h1
 have e3:=fe_19_15 x h0 h1
 have e4:=fe_24_20 x h0 h1
 have e5:=fe_31_25 x h0 h1
 have e6:=(fe_6_0 x h0 h1).trans hop
 have e7:=fe_31_20 x h0 h1
 have e8:=sI x h0 h1
 have b0:=(i20_bd x h0 h1).1
 have b1:=(i20_bd x h0 h1).2
 have c1:=(rdf_bd x).1
 have c2:=(rdf_bd x).2
 have c3:=(f3_bd x).1
 have c4:=(f3_bd x).2
 have c5:=(r1_bd x).1
 have c6:=(r1_bd x).2
 have c7:=(r2_bd x).1
 have c8:=(r2_bd x).2
 have c9:=(f7_bd x h0 h1).1
 have c10:=(f7_bd x h0 h1).2
 have HD:Hid (dec x=no):=dec_no x (by simp[opn,hop,hm,hh])
 have HH:Hid (_\/_):=no_T3320 x hh
 clear hh
 go_enter Tryz.func38,Tryz.ntmps38
 go_wp2_with (first|(go_at_call 59;refine(rb_any _ _ _ h0 h1 dC _).mono ?_;rintro e w' ⟨rfl,nq,rfl⟩)|(go_at_call_of 60 (Value.int IntKind.u32 (i20 x));refine(sg_any (i20 x) 12 dC (i20_bd x h0 h1).1 (i20_bd x h0 h1).2 _).mono ?_;rintro e w' ⟨rfl,rfl⟩))
 refine(one_no (w.heap.size+1+1) 6 6 (f3 x) 0 (rdf x) (r1 x) (r2 x) 0 c3 c4 _ ?g3 ?g4).mono ?_
 case g3=>simp
 case g4=>rw[World.cell?_alloc_at _ _ _ _ sP];exact HH.out
 exact X55
theorem ref_3320(x:Int)(h0:0<=x)(h1:x<=4294967295)(hop:opc x=51)(hm:f7 x=32)(w:World):
  Calls Tryz.prog 38 #[.int .u32 x] w fun e w'=>e=.returned (dec x)/\Below w.heap.size w w':=by
 by_cases hh:at8 T3320 x=-1
 ·exact ref_3320_no x h0 h1 hop hm hh w
 ·exact ref_3320_hit x h0 h1 hop hm hh w
theorem ref_33_no(x:Int)(h0:0<=x)(h1:x<=4294967295)(hop:opc x=51)(hm:¬f7 x=0)(hn:¬f7 x=1)(hk:¬f7 x=32)(w:World):
  Calls Tryz.prog 38 #[.int .u32 x] w fun e w'=>e=.returned (dec x)/\Below w.heap.size w w':=by
 have e1:=fe_11_7 x h0 h1
 have e2:=fe_14_12 x h0 h1
 have e3:=fe_19_15 x h0 h1
 have e4:=fe_24_20 x h0 h1
 have e5:=fe_31_25 x h0 h1
 have e6:=(fe_6_0 x h0 h1).trans hop
 have e7:=fe_31_20 x h0 h1
 have e8:=sI x h0 h1
 have b0:=(i20_bd x h0 h1).1
 have b1:=(i20_bd x h0 h1).2
 have c1:=(rdf_bd x).1
 have c2:=(rdf_bd x).2
 have c3:=(f3_bd x).1
 have c4:=(f3_bd x).2
 have c5:=(r1_bd x).1
 have c6:=(r1_bd x).2
 have c7:=(r2_bd x).1
 have c8:=(r2_bd x).2
 have c9:=(f7_bd x h0 h1).1
 have c10:=(f7_bd x h0 h1).2
 have HD:Hid (dec x=no):=dec_no x (by simp[opn,hop,hm,hn,hk])
 exact X51
theorem ref_0F_hit(x:Int)(h0:0<=x)(h1:x<=4294967295)(hop:opc x=15)(hh:¬at8 T0F x=-1)(w:World):
  Calls Tryz.prog 38 #[.int .u32 x] w fun e w'=>e=.returned (dec x)/\Below w.heap.size w w':=by
 have e1:=fe_11_7 x h0 h1
 have e2:=fe_14_12 x h0 h1
 have e3:=fe_19_15 x h0 h1
 have e4:=fe_24_20 x h0 h1
 have e5:=fe_31_25 x h0 h1
 have e6:=(fe_6_0 x h0 h1).trans hop
 have e7:=fe_31_20 x h0 h1
 have e8:=sI x h0 h1
 have b0:=(i20_bd x h0 h1).1
 have b1:=(i20_bd x h0 h1).2
 have c1:=(rdf_bd x).1
 have c2:=(rdf_bd x).2
 have c3:=(f3_bd x).1
 have c4:=(f3_bd x).2
 have c5:=(r1_bd x).1
 have c6:=(r1_bd x).2
 have c7:=(r2_bd x).1
 have c8:=(r2_bd x).2
 have c9:=(f7_bd x h0 h1).1
 have c10:=(f7_bd x h0 h1).2
 have HD:Hid (dec x=ins (at8 T0F x) 0 0 0 0):=dec_ins x _ _ _ _ _ X5c hh X59 X5a X5b X5d
 have HH:Hid (_/\_/\_):=hit_T0F x hh
 clear hh
 go_enter Tryz.func38,Tryz.ntmps38
 go_wp2_with (first|(go_at_call 59;refine(rb_any _ _ _ h0 h1 dC _).mono ?_;rintro e w' ⟨rfl,nq,rfl⟩)|(go_at_call_of 60 (Value.int IntKind.u32 (i20 x));refine(sg_any (i20 x) 12 dC (i20_bd x h0 h1).1 (i20_bd x h0 h1).2 _).mono ?_;rintro e w' ⟨rfl,rfl⟩))
 refine(one_hit (w.heap.size+1) 2 2 (f3 x) (at8 T0F x) 0 0 0 0 0 c3 ?g1 c4 ?g2 _ ?g3 ?g4).mono ?_
 case g1=>have:=HH.out.1;omega
 case g2=>exact HH.out.2.2
 case g3=>simp
 case g4=>rw[World.cell?_alloc_at _ _ _ _ sP];exact HH.out.2.1
 exact X50
theorem ref_0F_no(x:Int)(h0:0<=x)(h1:x<=4294967295)(hop:opc x=15)(hh:at8 T0F x=-1)(w:World):
  Calls Tryz.prog 38 #[.int .u32 x] w fun e w'=>e=.returned (dec x)/\Below w.heap.size w w':=by
 have e1:=fe_11_7 x h0 h1
 have e2:=fe_14_12 x h0 h1
 have e3:=fe_19_15 x h0 h1
 have e4:=fe_24_20 x h0 h1
 have e5:=fe_31_25 x h0 h1
 have e6:=(fe_6_0 x h0 h1).trans hop
 have e7:=fe_31_20 x h0 h1
 have e8:=sI x h0 h1
 have b0:=(i20_bd x h0 h1).1
 have b1:=(i20_bd x h0 h1).2
 have c1:=(rdf_bd x).1
 have c2:=(rdf_bd x).2
 have c3:=(f3_bd x).1
 have c4:=(f3_bd x).2
 have c5:=(r1_bd x).1
 have c6:=(r1_bd x).2
 have c7:=(r2_bd x).1
 have c8:=(r2_bd x).2
 have c9:=(f7_bd x h0 h1).1
 have c10:=(f7_bd x h0 h1).2
 have HD:Hid (dec x=no):=dec_no x X58
 have HH:Hid (_\/_):=no_T0F x hh
 clear hh
 go_enter Tryz.func38,Tryz.ntmps38
 go_wp2_with (first|(go_at_call 59;refine(rb_any _ _ _ h0 h1 dC _).mono ?_;rintro e w' ⟨rfl,nq,rfl⟩)|(go_at_call_of 60 (Value.int IntKind.u32 (i20 x));refine(sg_any (i20 x) 12 dC (i20_bd x h0 h1).1 (i20_bd x h0 h1).2 _).mono ?_;rintro e w' ⟨rfl,rfl⟩))
 refine(one_no (w.heap.size+1) 2 2 (f3 x) 0 0 0 0 0 c3 c4 _ ?g3 ?g4).mono ?_
 case g3=>simp
 case g4=>rw[World.cell?_alloc_at _ _ _ _ sP];exact HH.out
 exact X55
theorem ref_0F(x:Int)(h0:0<=x)(h1:x<=4294967295)(hop:opc x=15)(w:World):
  Calls Tryz.prog 38 #[.int .u32 x] w fun e w'=>e=.returned (dec x)/\Below w.heap.size w w':=by
 by_cases hh:at8 T0F x=-1
 ·exact ref_0F_no x h0 h1 hop hh w
 ·exact ref_0F_hit x h0 h1 hop hh w
theorem ref_other(x:Int)(h0:0<=x)(h1:x<=4294967295)(n55:¬opc x=55)(n23:¬opc x=23)(n111:¬opc x=111)(n103:¬opc x=103)(n99:¬opc x=99)(n3:¬opc x=3)(n35:¬opc x=35)(n19:¬opc x=19)(n51:¬opc x=51)(n15:¬opc x=15)(n115:¬opc x=115)(w:World):
  Calls Tryz.prog 38 #[.int .u32 x] w fun e w'=>e=.returned (dec x)/\Below w.heap.size w w':=by
 have e1:=fe_11_7 x h0 h1
 have e2:=fe_14_12 x h0 h1
 have e3:=fe_19_15 x h0 h1
 have e4:=fe_24_20 x h0 h1
 have e5:=fe_31_25 x h0 h1
 have e6:=fe_6_0 x h0 h1
 have e7:=fe_31_20 x h0 h1
 have e8:=sI x h0 h1
 have b0:=(i20_bd x h0 h1).1
 have b1:=(i20_bd x h0 h1).2
 have c1:=(rdf_bd x).1
 have c2:=(rdf_bd x).2
 have c3:=(f3_bd x).1
 have c4:=(f3_bd x).2
 have c5:=(r1_bd x).1
 have c6:=(r1_bd x).2
 have c7:=(r2_bd x).1
 have c8:=(r2_bd x).2
 have c9:=(f7_bd x h0 h1).1
 have c10:=(f7_bd x h0 h1).2
 have HD:Hid (dec x=no):=dec_no x (by simp[opn,n55,n23,n111,n103,n99,n3,n35,n19,n51,n15,n115])
 exact X51
theorem dref_any(x:Int)(h0:0<=x)(h1:x<=4294967295)(w:World):
  Calls Tryz.prog 38 #[.int .u32 x] w fun e w'=>e=.returned (dec x)/\Below w.heap.size w w':=by
 by_cases n55:opc x=55
 ·exact ref_37 x h0 h1 n55 w
 by_cases n23:opc x=23
 ·exact ref_17 x h0 h1 n23 w
 by_cases n111:opc x=111
 ·exact ref_6F x h0 h1 n111 w
 by_cases n103:opc x=103
 ·exact ref_67 x h0 h1 n103 w
 by_cases n99:opc x=99
 ·exact ref_63 x h0 h1 n99 w
 by_cases n3:opc x=3
 ·exact ref_03 x h0 h1 n3 w
 by_cases n35:opc x=35
 ·exact ref_23 x h0 h1 n35 w
 by_cases n19:opc x=19
 ·by_cases m1:f3 x=1
  ·by_cases k0:f7 x=0
   ·exact ref_slli x h0 h1 n19 m1 k0 w
   ·exact ref_sh1 x h0 h1 n19 m1 k0 w
  by_cases m5:f3 x=5
  ·by_cases k0:f7 x=0
   ·exact ref_srli x h0 h1 n19 m5 k0 w
   by_cases k32:f7 x=32
   ·exact ref_srai x h0 h1 n19 m5 k32 w
   ·exact ref_sh5 x h0 h1 n19 m5 k0 k32 w
  exact ref_13 x h0 h1 n19 m1 m5 w
 by_cases n51:opc x=51
 ·by_cases k0:f7 x=0
  ·exact ref_330 x h0 h1 n51 k0 w
  by_cases k1:f7 x=1
  ·exact ref_331 x h0 h1 n51 k1 w
  by_cases k32:f7 x=32
  ·exact ref_3320 x h0 h1 n51 k32 w
  exact ref_33_no x h0 h1 n51 k0 k1 k32 w
 by_cases n15:opc x=15
 ·exact ref_0F x h0 h1 n15 w
 by_cases n115:opc x=115
 ·by_cases x1:x=115
  ·subst x1;exact ref_ecall w
  by_cases x2:x=1048691
  ·subst x2;exact ref_ebreak w
  exact ref_73_no x h0 h1 n115 x1 x2 w
 exact ref_other x h0 h1 n55 n23 n111 n103 n99 n3 n35 n19 n51 n15 n115 w
end decodes
end Go.Proofs.YtjikimpejlmdiaaGreatDoor

import Derived.Test.YtjikimpejlmdiaaGreatDoorZGr
import Derived.Test.YtjikimpejlmdiaaGreatDoorZGa
import Derived.Deep.MidRow
set_option maxHeartbeats 4000000
set_option linter.unusedVariables false
set_option linter.unusedSimpArgs false
set_option maxRecDepth 10000
namespace Go.Proofs.YtjikimpejlmdiaaGreatDoor
theorem Xj0{p:Prop}(h:p:=by rw[World.cell?_alloc_past _ _ _ sP,World.cell?_alloc_at _ _ _ _ rfl];rfl):p:=h
theorem Xj1{p:Prop}(h:p:=by simp;omega):p:=h
namespace prog
open ChangeShapes WideShapes ChangeAt RowKit nums dnums mach
attribute [local go_sem ↓] Go.wp_at_zero Go.wp_at_succ
def repP (m:M) (o:Int) (vE:Value):Array Value:=#[.int .i64 o,.int .u32 m.pc,.int .u32 (m.regs 0),.int .u32 (m.regs 1),.int .u32 (m.regs 2),.int .u32 (m.regs 3),.int .u32 (m.regs 4),.int .u32 (m.regs 5),.int .u32 (m.regs 6),.int .u32 (m.regs 7),.int .u32 (m.regs 8),.int .u32 (m.regs 9),.int .u32 (m.regs 10),.int .u32 (m.regs 11),.int .u32 (m.regs 12),.int .u32 (m.regs 13),.int .u32 (m.regs 14),.int .u32 (m.regs 15),.int .u32 (m.regs 16),.int .u32 (m.regs 17),.int .u32 (m.regs 18),.int .u32 (m.regs 19),.int .u32 (m.regs 20),.int .u32 (m.regs 21),.int .u32 (m.regs 22),.int .u32 (m.regs 23),.int .u32 (m.regs 24),.int .u32 (m.regs 25),.int .u32 (m.regs 26),.int .u32 (m.regs 27),.int .u32 (m.regs 28),.int .u32 (m.regs 29),.int .u32 (m.regs 30),.int .u32 (m.regs 31),.int .u32 m.brk,.string (ref.memD m.mem 0 m.size),vE,.int .i64 m.steps,.int .i64 m.built]
theorem repP_one(m:M)(o:Int)(vE:Value)(h:vE.oneCell'=true):(repP m o vE).all (·.oneCell')=true:=by
 cases vE<;>simp_all [repP,Value.oneCell']
theorem mrun_bu{m0 m:M}(h:MRun m0 m)(h0:m0.nslots=0)(hb:m0.built=0):BuS m:=Or.inl ⟨h.ns,by obtain⟨k,hk⟩:=h.reach;rw[hk,run_built k m0 h0];exact hb⟩
theorem info_rg:(Tryz.prog.info? 29).map (·.size)=some 32:=by kernel_rfl
theorem regs_range{B b mb:Nat}{m:M}{nx:Int}{vX:Nat->Value}{w:World}(h:PAt B b mb m nx vX w):w.rangeAt b 0 [Value.int .u32 (m.regs 0),Value.int .u32 (m.regs 1),Value.int .u32 (m.regs 2),Value.int .u32 (m.regs 3),Value.int .u32 (m.regs 4),Value.int .u32 (m.regs 5),Value.int .u32 (m.regs 6),Value.int .u32 (m.regs 7),Value.int .u32 (m.regs 8),Value.int .u32 (m.regs 9),Value.int .u32 (m.regs 10),Value.int .u32 (m.regs 11),Value.int .u32 (m.regs 12),Value.int .u32 (m.regs 13),Value.int .u32 (m.regs 14),Value.int .u32 (m.regs 15),Value.int .u32 (m.regs 16),Value.int .u32 (m.regs 17),Value.int .u32 (m.regs 18),Value.int .u32 (m.regs 19),Value.int .u32 (m.regs 20),Value.int .u32 (m.regs 21),Value.int .u32 (m.regs 22),Value.int .u32 (m.regs 23),Value.int .u32 (m.regs 24),Value.int .u32 (m.regs 25),Value.int .u32 (m.regs 26),Value.int .u32 (m.regs 27),Value.int .u32 (m.regs 28),Value.int .u32 (m.regs 29),Value.int .u32 (m.regs 30),Value.int .u32 (m.regs 31)]:=by
 intro j v hv
 have hj:j<32:=by have:=(List.getElem?_eq_some_iff.1 hv).1;simpa using this
 rw[Nat.zero_add,h.reg j hj,<-hv]
 have:j=0\/j=1\/j=2\/j=3\/j=4\/j=5\/j=6\/j=7\/j=8\/j=9\/j=10\/j=11\/j=12\/j=13\/j=14\/j=15\/j=16\/j=17\/j=18\/j=19\/j=20\/j=21\/j=22\/j=23\/j=24\/j=25\/j=26\/j=27\/j=28\/j=29\/j=30\/j=31:=by omega
 rcases this with rfl|rfl|rfl|rfl|rfl|rfl|rfl|rfl|rfl|rfl|rfl|rfl|rfl|rfl|rfl|rfl|rfl|rfl|rfl|rfl|rfl|rfl|rfl|rfl|rfl|rfl|rfl|rfl|rfl|rfl|rfl|rfl<;>rfl
theorem report_any{B E b mb sb:Nat}{m:M}{nx:Int}{vE vA:Value}{w:World}(h:PW B E b mb sb m nx vE vA w)(hz:0<m.size)(hf:Fine m)(hbu:BuS m)(o:Int):
  Calls Tryz.prog 32 #[.pointer (some ⟨b,0,none⟩),.int .i64 o] w fun e w'=>e=.returned (.agg (repP m o vE))/\ref.Touch [] w w':=by
 obtain⟨oE,nE,cE,hvE⟩:=ref.own_slice h.evs
 subst hvE
 have HSk:Hid (∀w',ref.Touch [] w w'->(fun w'=>w'.rangeAt b 0 [Value.int .u32 (m.regs 0),Value.int .u32 (m.regs 1),Value.int .u32 (m.regs 2),Value.int .u32 (m.regs 3),Value.int .u32 (m.regs 4),Value.int .u32 (m.regs 5),Value.int .u32 (m.regs 6),Value.int .u32 (m.regs 7),Value.int .u32 (m.regs 8),Value.int .u32 (m.regs 9),Value.int .u32 (m.regs 10),Value.int .u32 (m.regs 11),Value.int .u32 (m.regs 12),Value.int .u32 (m.regs 13),Value.int .u32 (m.regs 14),Value.int .u32 (m.regs 15),Value.int .u32 (m.regs 16),Value.int .u32 (m.regs 17),Value.int .u32 (m.regs 18),Value.int .u32 (m.regs 19),Value.int .u32 (m.regs 20),Value.int .u32 (m.regs 21),Value.int .u32 (m.regs 22),Value.int .u32 (m.regs 23),Value.int .u32 (m.regs 24),Value.int .u32 (m.regs 25),Value.int .u32 (m.regs 26),Value.int .u32 (m.regs 27),Value.int .u32 (m.regs 28),Value.int .u32 (m.regs 29),Value.int .u32 (m.regs 30),Value.int .u32 (m.regs 31)]/\w'.cell? ⟨b,33,none⟩=some (.int .u32 m.pc)/\w'.cell? ⟨b,36,none⟩=some (.int .u32 m.brk)/\w'.cell? ⟨b,32,none⟩=some (.slice (some ⟨mb,0,none⟩) m.size m.size)/\w'.cell? ⟨b,38,none⟩=some (.slice oE nE cE)/\w'.cell? ⟨b,39,none⟩=some (.int .i64 m.steps)/\w'.cell? ⟨b,43,none⟩=some (mapV m.nslots sb)/\(m.nslots≠0->PMp (sb+1) m.blocks w')/\(convert 74 9 (.slice (some ⟨mb,0,none⟩) m.size m.size)).run Tryz.prog w'=.ok (.string (ref.memD m.mem 0 m.size)) w') w'):=fun w' t=>by
  have q:=h.quiet hz t
  exact⟨regs_range q.p,q.p.cells 33 dC dC,q.p.cells 36 dC dC,q.p.data,q.cE,q.p.cells 39 dC dC,q.p.cells 43 dC dC,fun hn=>(q.c.mp hn).1,conv_p q.p hf.mem 0 0 m.size m.size oM (fun _=>rfl)⟩
 have HTH:Hid ((w.alloc (.cells ref.rep0 32)).drew.there w.heap.size 0 39):=ref.there_of (heap_alloc_new w _) rfl rfl
 have HBU:Hid (BuS m):=hbu
 clear h hz hf hbu
 go_enter Tryz.func32,Tryz.ntmps32
 go_wp2_with fail
 refine wp_region_held_drew (S:=(fun w'=>w'.rangeAt b 0 [Value.int .u32 (m.regs 0),Value.int .u32 (m.regs 1),Value.int .u32 (m.regs 2),Value.int .u32 (m.regs 3),Value.int .u32 (m.regs 4),Value.int .u32 (m.regs 5),Value.int .u32 (m.regs 6),Value.int .u32 (m.regs 7),Value.int .u32 (m.regs 8),Value.int .u32 (m.regs 9),Value.int .u32 (m.regs 10),Value.int .u32 (m.regs 11),Value.int .u32 (m.regs 12),Value.int .u32 (m.regs 13),Value.int .u32 (m.regs 14),Value.int .u32 (m.regs 15),Value.int .u32 (m.regs 16),Value.int .u32 (m.regs 17),Value.int .u32 (m.regs 18),Value.int .u32 (m.regs 19),Value.int .u32 (m.regs 20),Value.int .u32 (m.regs 21),Value.int .u32 (m.regs 22),Value.int .u32 (m.regs 23),Value.int .u32 (m.regs 24),Value.int .u32 (m.regs 25),Value.int .u32 (m.regs 26),Value.int .u32 (m.regs 27),Value.int .u32 (m.regs 28),Value.int .u32 (m.regs 29),Value.int .u32 (m.regs 30),Value.int .u32 (m.regs 31)]/\w'.cell? ⟨b,33,none⟩=some (.int .u32 m.pc)/\w'.cell? ⟨b,36,none⟩=some (.int .u32 m.brk)/\w'.cell? ⟨b,32,none⟩=some (.slice (some ⟨mb,0,none⟩) m.size m.size)/\w'.cell? ⟨b,38,none⟩=some (.slice oE nE cE)/\w'.cell? ⟨b,39,none⟩=some (.int .i64 m.steps)/\w'.cell? ⟨b,43,none⟩=some (mapV m.nslots sb)/\(m.nslots≠0->PMp (sb+1) m.blocks w')/\(convert 74 9 (.slice (some ⟨mb,0,none⟩) m.size m.size)).run Tryz.prog w'=.ok (.string (ref.memD m.mem 0 m.size)) w')) kR (HSk.out _ ((ref.Touch.refl _ _).alloc _).drew) (fun hHeld=> ?_)
 refine tkk 0 5 ?_
 refine tkk 1 6 ?_
 refine tkk 2 7 ?_
 refine tkk 3 8 ?_
 refine tkk 4 9 ?_
 refine tkk 5 10 ?_
 refine tkk 6 11 ?_
 refine tkk 7 12 ?_
 try go_frame
 refine wpAnyH_take (i:=8) (oi:=⟨some 13,_,_,_,_,_⟩) (v:=.agg [Value.int .u32 (m.regs 0),Value.int .u32 (m.regs 1),Value.int .u32 (m.regs 2),Value.int .u32 (m.regs 3),Value.int .u32 (m.regs 4),Value.int .u32 (m.regs 5),Value.int .u32 (m.regs 6),Value.int .u32 (m.regs 7),Value.int .u32 (m.regs 8),Value.int .u32 (m.regs 9),Value.int .u32 (m.regs 10),Value.int .u32 (m.regs 11),Value.int .u32 (m.regs 12),Value.int .u32 (m.regs 13),Value.int .u32 (m.regs 14),Value.int .u32 (m.regs 15),Value.int .u32 (m.regs 16),Value.int .u32 (m.regs 17),Value.int .u32 (m.regs 18),Value.int .u32 (m.regs 19),Value.int .u32 (m.regs 20),Value.int .u32 (m.regs 21),Value.int .u32 (m.regs 22),Value.int .u32 (m.regs 23),Value.int .u32 (m.regs 24),Value.int .u32 (m.regs 25),Value.int .u32 (m.regs 26),Value.int .u32 (m.regs 27),Value.int .u32 (m.regs 28),Value.int .u32 (m.regs 29),Value.int .u32 (m.regs 30),Value.int .u32 (m.regs 31)].toArray) rfl kR kR kR (fun _ _ _ h=>h) (yieldsIf_load_mid rF _ _ rfl b 0 rfl [Value.int .u32 (m.regs 0),Value.int .u32 (m.regs 1),Value.int .u32 (m.regs 2),Value.int .u32 (m.regs 3),Value.int .u32 (m.regs 4),Value.int .u32 (m.regs 5),Value.int .u32 (m.regs 6),Value.int .u32 (m.regs 7),Value.int .u32 (m.regs 8),Value.int .u32 (m.regs 9),Value.int .u32 (m.regs 10),Value.int .u32 (m.regs 11),Value.int .u32 (m.regs 12),Value.int .u32 (m.regs 13),Value.int .u32 (m.regs 14),Value.int .u32 (m.regs 15),Value.int .u32 (m.regs 16),Value.int .u32 (m.regs 17),Value.int .u32 (m.regs 18),Value.int .u32 (m.regs 19),Value.int .u32 (m.regs 20),Value.int .u32 (m.regs 21),Value.int .u32 (m.regs 22),Value.int .u32 (m.regs 23),Value.int .u32 (m.regs 24),Value.int .u32 (m.regs 25),Value.int .u32 (m.regs 26),Value.int .u32 (m.regs 27),Value.int .u32 (m.regs 28),Value.int .u32 (m.regs 29),Value.int .u32 (m.regs 30),Value.int .u32 (m.regs 31)] _ (fun w' hSw=>hSw.1) Tryz.underlying29 rfl info_rg) aS ?rest13x
 try go_frame
 refine tkk 9 14 ?_
 refine tkk 10 15 ?_
 refine tkk 11 16 ?_
 refine tkk 12 17 ?_
 refine tkk 13 18 ?_
 refine tkk 14 19 ?_
 refine tkk 15 20 ?_
 refine tkk 16 21 ?_
 refine tkk 17 22 ?_
 refine tkk 18 23 ?_
 refine tkk 19 24 ?_
 refine tkk 20 25 ?_
 refine tkk 21 26 ?_
 refine tkk 22 27 ?_
 refine tkk 23 28 ?_
 refine tkk 24 29 ?_
 refine tkk 25 30 ?_
 refine tkk 26 31 ?_
 refine tkk 27 32 ?_
 refine tkk 28 33 ?_
 refine tkk 29 34 ?_
 refine tkk 30 35 ?_
 try go_frame
 refine rdy 31 (fun K hK=> ?_)
 go_simp
 refine(Calls.mono (built_any m sb _ hHeld.2.2.2.2.2.2.2.1 HBU.out) ?_)
 rintro e w8 ⟨rfl,ht8⟩
 have t8:ref.Touch [] w w8:=ref.Touch.trans ((ref.Touch.refl _ _).alloc _).drew ht8
 have HTH8:Hid (w8.there w.heap.size 0 39):=there_t HTH.out dC ht8 sP
 clear ht8
 refine hK.out _ _ (HSk.out _ t8) (fun hHeld=> ?_)
 clear hK K
 try go_frame
 refine wpAnyH_take (i:=32) (oi:=⟨some 37,_,_,_,_,_⟩) (v:=.agg (repP m o (.slice oE nE cE))) rfl kR kR kR (fun _ _ _ h=>h) (Or.inl ⟨by rfl, ?hy37x333⟩) aS ?rest37x333
 case hy37x333=>intro w' hSw;clear hSw;go_simp;rfl
 try go_frame
 refine rdy 33 (fun K hK=> ?_)
 refine wp_store_mid _ _ _ rfl w.heap.size 0 (repP m o (.slice oE nE cE)) rfl rfl (by exact HTH8.out) ref.info_rep (repP_one m o _ rfl) ?_
 generalize h9:World.setCells _ w.heap.size 0 (repP m o (.slice oE nE cE)).toList=w9
 have t9:ref.Touch [] w w9:=by rw[<-h9];exact touch_new _ _ _ _ t8 (Nat.le_refl _)
 have R9:Hid (w9.rangeAt w.heap.size 0 (repP m o (.slice oE nE cE)).toList):=by rw[<-h9];exact World.rangeAt_setCells_same _ _ _ _ (by exact HTH8.out)
 clear h9
 refine hK.out _ _ (HSk.out _ t9) (fun hHeld9=> ?_)
 clear hK K
 try go_frame
 refine wpAnyH_done kR ?_ _
 go_wp2_with fail
 refine bodyPost_ret (results_c Tryz.results32 _ _ _ w.heap.size (repP m o (.slice oE nE cE)).toList rF _ R9.out Tryz.underlying32 rfl ref.info_rep) rfl ?_
 exact⟨by simp,t9⟩
theorem interpret_err(pg:Int)(im:ByteArray)(ba en:Int)(vA:Value)(fu sl ar:Int)(ba0:0<=ba)(ba1:ba<=4294967295)(him:im.size<=1048576)(w:World)(oa:Option Addr)(na ca:Nat)(hvA:vA=.slice oa na ca)(hw:¬ref.wrong pg im ba fu sl ar false=0):
  Calls Tryz.prog 14 #[.agg #[.int .i64 pg,.string im,.int .u32 ba,.int .u32 en,vA,.int .i64 fu,.int .i64 sl,.int .i64 ar]] w fun e w'=>e=.returned (.tuple #[.agg ref.rep0,.int .i64 (ref.wrong pg im ba fu sl ar false)])/\Below w.heap.size w w':=by
 subst hvA
 have HCK:Hid (∀w,_):=fun w=>check_any pg im ba en (.slice oa na ca) fu sl ar ba0 ba1 him w
 obtain⟨er,her⟩:∃er,er=ref.wrong pg im ba fu sl ar false:=⟨_,rfl⟩
 rw[<-her]at HCK hw ⊢
 clear her
 go_enter Tryz.func14,Tryz.ntmps14
 go_wp2_with (first|(go_at_call 29;refine(Calls.mono (HCK.out _) ?_);rintro e w1 ⟨rfl,ht1⟩;have T1:Hid (ref.Touch [] ((w.alloc (.cells #[.int .i64 pg,.string im,.int .u32 ba,.int .u32 en,.slice oa na ca,.int .i64 fu,.int .i64 sl,.int .i64 ar] 25)).alloc (.cells ref.rep0 32)) w1):=ht1;have HTH:Hid (w1.there (w.heap.size+1) 0 39):=ref.there_of (ref.two_new w _ _) rfl (ht1.block (w.heap.size+1) sP sP);have cF:w1.cell? ⟨w.heap.size,5,none⟩=some (.int .i64 fu):=(ht1.cell (p:=⟨w.heap.size,5,none⟩) Xj1 sP).trans Xj0;clear ht1)|(refine wpList_store_mid rF 32 (.tmp 2) (.tmp 11) rF (w.heap.size+1) 0 ref.rep0 rF rF HTH.out ref.info_rep ref.rep0_one ?_;generalize hw9:w1.setCells (w.heap.size+1) 0 ref.rep0.toList=w9;have H9:Hid (w1.setCells (w.heap.size+1) 0 ref.rep0.toList=w9):=hw9;clear hw9))
 refine bodyPost_ret (results_ct Tryz.results14 _ _ _ (w.heap.size+1) ref.rep0.toList rF _ (by rw[<-H9.out];exact World.rangeAt_setCells_same _ _ _ _ HTH.out) Tryz.underlying32 rfl ref.info_rep) rfl ?_
 refine⟨rfl, ?_⟩
 rw[<-H9.out]
 exact below_setCells oM _ _ _ (((((ref.Touch.refl _ _).alloc _).alloc _).trans T1.out).below (Nat.le_refl _) sP)
theorem interpret_ok(pg:Int)(im:ByteArray)(ba en:Int)(vA:Value)(fu sl ar:Int)(ba0:0<=ba)(ba1:ba<=4294967295)(him:im.size<=1048576)(w:World)(oa:Option Addr)(na ca:Nat)(hvA:vA=.slice oa na ca)(ans:List ByteArray)(ha:ref.AnsAt w.heap.size ans vA w)(en0:0<=en)(en1:en<=4294967295)(hw:ref.wrong pg im ba fu sl ar false=0)
  (hT:∀w' x,Below w.heap.size w w'->decodes.Tabs w' x):
  Calls Tryz.prog 14 #[.agg #[.int .i64 pg,.string im,.int .u32 ba,.int .u32 en,vA,.int .i64 fu,.int .i64 sl,.int .i64 ar]] w fun e w'=>∃m vE,e=.returned (.tuple #[.agg (repP m m.out vE),.int .i64 0])/\MRun (ref.start pg im ba en ans fu sl ar false) m/\m.ended=true/\w'.ownsRow w.heap.size 52 3 vE m.evs.length (ref.evCells m.evs)/\Below w.heap.size w w':=by
 subst hvA
 have HCK:Hid (∀w,_):=fun w=>check_any pg im ba en (.slice oa na ca) fu sl ar ba0 ba1 him w
 rw[hw]at HCK
 have HNW:Hid (∀w,ref.AnsAt w.heap.size ans (.slice oa na ca) w->_):=fun w ha=>newp_any pg im ba en (.slice oa na ca) fu sl ar ba0 ba1 him w oa na ca rfl en0 en1 hw ans ha
 have HMR:Hid (MRun (ref.start pg im ba en ans fu sl ar false) (ref.start pg im ba en ans fu sl ar false)):=ref.mrun_start pg im ba en ans fu sl ar ba0 en0 en1 hw
 have HIN:Hid (∀(w2:World) (n:Nat) (h:PW n w2.heap.size (n+1+1) (n+1) (n+1) (ref.start pg im ba en ans fu sl ar false) 0 (.slice none 0 0) (.slice oa na ca) w2),_->_):=fun w2 n h hT=>interp_any n (n+1+1) (n+1) (n+1) (ref.start pg im ba en ans fu sl ar false) 0 (.slice oa na ca) w2 h HMR.out rfl rfl hT
 have HA:Hid (ref.AnsAt w.heap.size ans (.slice oa na ca) w):=ha
 have HTB:Hid (∀w' x,Below w.heap.size w w'->decodes.Tabs w' x):=hT
 clear ha hT hw
 go_enter Tryz.func14,Tryz.ntmps14
 go_wp2_with (first|(go_at_call 29;refine(Calls.mono (HCK.out _) ?_);rintro e w1 ⟨rfl,ht1⟩;have T1:Hid (ref.Touch [] ((w.alloc (.cells #[.int .i64 pg,.string im,.int .u32 ba,.int .u32 en,.slice oa na ca,.int .i64 fu,.int .i64 sl,.int .i64 ar] 25)).alloc (.cells ref.rep0 32)) w1):=ht1;have HTH:Hid (w1.there (w.heap.size+1) 0 39):=ref.there_of (ref.two_new w _ _) rfl (ht1.block (w.heap.size+1) sP sP);have cF:w1.cell? ⟨w.heap.size,5,none⟩=some (.int .i64 fu):=(ht1.cell (p:=⟨w.heap.size,5,none⟩) Xj1 sP).trans Xj0;have s0:w1.cell? ⟨w.heap.size,0,none⟩=some (.int .i64 pg):=(ht1.cell (p:=⟨w.heap.size,0,none⟩) Xj1 sP).trans Xj0;have s1:w1.cell? ⟨w.heap.size,1,none⟩=some (.string im):=(ht1.cell (p:=⟨w.heap.size,1,none⟩) Xj1 sP).trans Xj0;have s2:w1.cell? ⟨w.heap.size,2,none⟩=some (.int .u32 ba):=(ht1.cell (p:=⟨w.heap.size,2,none⟩) Xj1 sP).trans Xj0;have s3:w1.cell? ⟨w.heap.size,3,none⟩=some (.int .u32 en):=(ht1.cell (p:=⟨w.heap.size,3,none⟩) Xj1 sP).trans Xj0;have s4:w1.cell? ⟨w.heap.size,4,none⟩=some (.slice oa na ca):=(ht1.cell (p:=⟨w.heap.size,4,none⟩) Xj1 sP).trans Xj0;have s5:w1.cell? ⟨w.heap.size,5,none⟩=some (.int .i64 fu):=(ht1.cell (p:=⟨w.heap.size,5,none⟩) Xj1 sP).trans Xj0;have s6:w1.cell? ⟨w.heap.size,6,none⟩=some (.int .i64 sl):=(ht1.cell (p:=⟨w.heap.size,6,none⟩) Xj1 sP).trans Xj0;have s7:w1.cell? ⟨w.heap.size,7,none⟩=some (.int .i64 ar):=(ht1.cell (p:=⟨w.heap.size,7,none⟩) Xj1 sP).trans Xj0;clear ht1)|(go_at_call 30;refine(Calls.mono (HNW.out _ (HA.out.mono2 ((((ref.Touch.refl _ _).alloc _).alloc _).trans T1.out) (by have:=T1.out.size;simp at this;omega))) ?_);rintro e w2 ⟨rfl,hp2,hb2⟩;have P2:Hid (PW w1.heap.size w2.heap.size (w1.heap.size+1+1) (w1.heap.size+1) (w1.heap.size+1) (ref.start pg im ba en ans fu sl ar false) 0 (.slice none 0 0) (.slice oa na ca) w2):=hp2;have B2:Hid (Below w1.heap.size w1 w2):=hb2;have hl1:w.heap.size+1+1<=w1.heap.size:=(by have:=T1.out.size;simp at this;omega);have cF2:w2.cell? ⟨w.heap.size,5,none⟩=some (.int .i64 fu):=(World.cell?_of_block (w:=w1) (a:=⟨w.heap.size,5,none⟩) (hb2.block w.heap.size oM)).trans cF;have HTH2:Hid (w2.there (w.heap.size+1) 0 39):=ref.there_below HTH.out dC hb2 oM;have BW2:Hid (Below w.heap.size w w2):=(((((ref.Touch.refl _ _).alloc _).alloc _).trans T1.out).below (Nat.le_refl _) sP).trans (hb2.mono oM);clear hp2 hb2)|(go_at_call 31;refine(Calls.mono (HIN.out w2 (w1.heap.size) P2.out (fun w' x t=>HTB.out w' x (BW2.out.trans (t.below (by have:=BW2.out.size;omega) Xj1)))) ?_);rintro e w3 ⟨mF,nx3,vE3,vA3,rfl,q1,q2,q3,q4⟩;have HQ:Hid (MRun (ref.start pg im ba en ans fu sl ar false) mF/\mF.ended=true/\PW w1.heap.size w2.heap.size (w1.heap.size+1+1) (w1.heap.size+1) (w1.heap.size+1) mF nx3 vE3 vA3 w3/\ref.Touch [w1.heap.size+1+1,w1.heap.size+1,w1.heap.size+1] w2 w3):=⟨q1,q2,q3,q4⟩;clear q1 q2 q3 q4)|(go_at_call 32;refine(Calls.mono (report_any HQ.out.2.2.1 HQ.out.1.good.pos HQ.out.1.good.fine (mrun_bu HQ.out.1 rfl rfl) mF.out) ?_);rintro e w4 ⟨rfl,ht4⟩;have T4:Hid (ref.Touch [] w3 w4):=ht4;have HTH4:Hid (w4.there (w.heap.size+1) 0 39):=there_t (there_t HTH2.out dC HQ.out.2.2.2 Xj1) dC ht4 sP;clear ht4)|(refine wpList_store_mid rF 32 (.tmp 2) (.tmp 21) rF (w.heap.size+1) 0 (repP mF mF.out vE3) rF rF HTH4.out ref.info_rep (repP_one mF _ _ (ref.own_one HQ.out.2.2.1.evs)) ?_;generalize hw9:w4.setCells (w.heap.size+1) 0 (repP mF mF.out vE3).toList=w9;have H9:Hid (w4.setCells (w.heap.size+1) 0 (repP mF mF.out vE3).toList=w9):=hw9;clear hw9))
 refine bodyPost_ret (results_ct Tryz.results14 _ _ _ (w.heap.size+1) (repP mF mF.out vE3).toList rF _ (by rw[<-H9.out];exact World.rangeAt_setCells_same _ _ _ _ HTH4.out) Tryz.underlying32 rfl ref.info_rep) rfl ?_
 have hq:=HQ.out.2.2.1
 have t9:ref.Touch [w.heap.size+1] w4 w9:=by rw[<-H9.out];exact touch_sets sP _ _ _ _ (ref.Touch.refl _ _)
 have l2:=BW2.out.size
 have l3:=HQ.out.2.2.2.size
 have l4:=T4.out.size
 have lw2:w1.heap.size<=w2.heap.size:=B2.out.size
 refine⟨mF,vE3,rfl,HQ.out.1,HQ.out.2.1, ?_, ?_⟩
 ·refine ref.own_base (ref.own_touch (ref.own_touch hq.evs T4.out sP) t9 (fun k hk=> ?_)) l2
  have:=(ref.own_lt hq.evs k hk).1
  simp;omega
 ·exact((BW2.out.trans (HQ.out.2.2.2.below l2 Xj1)).trans (T4.out.below oM sP)).trans (t9.below oM sP)
end prog
end Go.Proofs.YtjikimpejlmdiaaGreatDoor

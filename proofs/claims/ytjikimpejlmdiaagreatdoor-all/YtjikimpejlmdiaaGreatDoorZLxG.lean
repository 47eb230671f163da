import Derived.Test.YtjikimpejlmdiaaGreatDoorZLwE
import Derived.Test.YtjikimpejlmdiaaGreatDoorZLxE
import Derived.Test.YtjikimpejlmdiaaGreatDoorZHg
import Derived.Test.YtjikimpejlmdiaaGreatDoorZGd
import Derived.Test.YtjikimpejlmdiaaGreatDoorZHh
set_option maxHeartbeats 4000000
set_option linter.unusedVariables false
set_option linter.unusedSimpArgs false
set_option maxRecDepth 10000
namespace Go.Proofs.YtjikimpejlmdiaaGreatDoor
namespace law
open ChangeShapes WideShapes ChangeAt RowKit nums dnums mach
attribute [local go_sem ↓] Go.wp_at_zero Go.wp_at_succ
theorem comp_law(op a b:Int)(h0:0<=a)(h1:a<=4294967295)(h2:0<=b)(h3:b<=4294967295)(w:World):
  Calls Tryz.prog 21 #[.int .i64 op,.int .u32 a,.int .u32 b] w fun e w'=>e=.returned (.bool true)/\∃n,w'=w.drewN n:=by
 go_enter Tryz.func21,Tryz.ntmps21
 go_wp2
 go_loopw [7] (fun i wr=>∃k:Int,-1<=k/\k<=50/\i=.int .i64 k/\∃n,wr=w.drewN n) (fun i _=>(50-intOf i).toNat)
 case atStart=>exact⟨-1,by omega,by omega,rfl,0,rfl⟩
 case round=>
  obtain⟨k,hk1,hk2,rfl,n,rfl⟩:=hrel
  by_cases hlt:k<50
  ·go_wp2_with (first
    |(go_at_call 28;refine(computes.call_any _ a b h0 h1 h2 h3 _).mono ?_;rintro e w' ⟨rfl,rfl⟩)
    |(go_at_call 39;refine(computes.ref_any _ a b h0 h1 h2 h3 _).mono ?_;rintro e w' ⟨rfl,nq,rfl⟩))
   go_roundw
   case rel=>exact⟨k+1,by omega,by omega,rfl,_,rfl⟩
   case measure=>simp[intOf];omega
  ·go_wp2_with (first
    |(go_at_call 28;refine(computes.call_any _ a b h0 h1 h2 h3 _).mono ?_;rintro e w' ⟨rfl,rfl⟩)
    |(go_at_call 39;refine(computes.ref_any _ a b h0 h1 h2 h3 _).mono ?_;rintro e w' ⟨rfl,nq,rfl⟩))
   go_ret
   exact⟨by simp,_,rfl⟩
theorem all_any(x op a b:Int)(x0:0<=x)(x1:x<=4294967295)(a0:0<=a)(a1:a<=4294967295)(b0:0<=b)(b1:b<=4294967295)(pg:Int)(im:ByteArray)(ba en fu sl ar:Int)(oa:Option Addr)(l:List ByteArray)(ca:Nat)(pg2:Int)(im2:ByteArray)(ba2 en2 fu2 sl2 ar2:Int)(oa2:Option Addr)(l2:List ByteArray)(ca2:Nat)(w:World)(ba0:0<=ba)(ba1:ba<=4294967295)(en0:0<=en)(en1:en<=4294967295)(h:ArgAt l oa ca w)(ba02:0<=ba2)(ba12:ba2<=4294967295)(en02:0<=en2)(en12:en2<=4294967295)(h2:ArgAt l2 oa2 ca2 w)(hT:∀w' x,Below w.heap.size w w'->decodes.Tabs w' x):
  Calls Tryz.prog 6 #[.int .u32 x,.int .i64 op,.int .u32 a,.int .u32 b,.agg #[.int .i64 pg,.string im,.int .u32 ba,.int .u32 en,.slice oa l.length ca,.int .i64 fu,.int .i64 sl,.int .i64 ar],.agg #[.int .i64 pg2,.string im2,.int .u32 ba2,.int .u32 en2,.slice oa2 l2.length ca2,.int .i64 fu2,.int .i64 sl2,.int .i64 ar2]] w fun e w'=>e=.returned (.bool true)/\Below w.heap.size w w':=by
 obtain⟨V,hV⟩:∃V,((w.alloc (.cells #[.int .i64 pg,.string im,.int .u32 ba,.int .u32 en,.slice oa l.length ca,.int .i64 fu,.int .i64 sl,.int .i64 ar] 25)).alloc (.cells #[.int .i64 pg2,.string im2,.int .u32 ba2,.int .u32 en2,.slice oa2 l2.length ca2,.int .i64 fu2,.int .i64 sl2,.int .i64 ar2] 25))=V:=⟨_,rfl⟩
 have HV:Hid (Below w.heap.size w V):=by rw[<-hV];exact((Below.refl _ _).alloc (Nat.le_refl _) _).alloc sP _
 have HZ:Hid (V.heap.size=w.heap.size+2):=by rw[<-hV];simp[Hid]
 have c1:SetB w.heap.size pg im ba en (.slice oa l.length ca) fu sl ar (w.alloc (.cells #[.int .i64 pg,.string im,.int .u32 ba,.int .u32 en,.slice oa l.length ca,.int .i64 fu,.int .i64 sl,.int .i64 ar] 25)):=⟨World.cell?_alloc_at _ _ _ _ rfl,World.cell?_alloc_at _ _ _ _ rfl,World.cell?_alloc_at _ _ _ _ rfl,World.cell?_alloc_at _ _ _ _ rfl,World.cell?_alloc_at _ _ _ _ rfl,World.cell?_alloc_at _ _ _ _ rfl,World.cell?_alloc_at _ _ _ _ rfl,World.cell?_alloc_at _ _ _ _ rfl⟩
 have c1':SetB w.heap.size pg im ba en (.slice oa l.length ca) fu sl ar V:=by rw[<-hV];exact c1.below ((Below.refl _ _).alloc (B:=w.heap.size+1) sP _) oM
 have c2:SetB (w.heap.size+1) pg2 im2 ba2 en2 (.slice oa2 l2.length ca2) fu2 sl2 ar2 V:=by
  rw[<-hV]
  have e:(w.alloc (.cells #[.int .i64 pg,.string im,.int .u32 ba,.int .u32 en,.slice oa l.length ca,.int .i64 fu,.int .i64 sl,.int .i64 ar] 25)).heap.size=w.heap.size+1:=by simp
  rw[<-e]
  exact⟨World.cell?_alloc_at _ _ _ _ rfl,World.cell?_alloc_at _ _ _ _ rfl,World.cell?_alloc_at _ _ _ _ rfl,World.cell?_alloc_at _ _ _ _ rfl,World.cell?_alloc_at _ _ _ _ rfl,World.cell?_alloc_at _ _ _ _ rfl,World.cell?_alloc_at _ _ _ _ rfl,World.cell?_alloc_at _ _ _ _ rfl⟩
 have HS1:Hid (∀X,Below V.heap.size V X->SetB w.heap.size pg im ba en (.slice oa l.length ca) fu sl ar X):=fun X hX=>c1'.below hX (by have:=HZ.out;omega)
 have HS2:Hid (∀X,Below V.heap.size V X->SetB (w.heap.size+1) pg2 im2 ba2 en2 (.slice oa2 l2.length ca2) fu2 sl2 ar2 X):=fun X hX=>c2.below hX (by have:=HZ.out;omega)
 have HA:Hid (ArgAt l oa ca V):=h.below HV.out
 have HA2:Hid (ArgAt l2 oa2 ca2 V):=h2.below HV.out
 have HTB:Hid (∀w' x,Below V.heap.size V w'->decodes.Tabs w' x):=fun w' x hb=>hT w' x (HV.out.trans (hb.mono HV.out.size))
 clear h h2 hT c1 c1' c2
 have HD:Hid (∀X,Below V.heap.size V X->Calls Tryz.prog 20 #[.int .u32 x] X (fun e w'=>e=.returned (.bool true)/\Below V.heap.size V w')):=fun X hX=>(decodes.walkB x x0 x1 X (HTB.out X x hX)).mono fun e w' ⟨h1,h2⟩=>⟨h1,hX.trans (h2.mono hX.size)⟩
 have HC:Hid (∀X,Below V.heap.size V X->Calls Tryz.prog 21 #[.int .i64 op,.int .u32 a,.int .u32 b] X (fun e w'=>e=.returned (.bool true)/\Below V.heap.size V w')):=fun X hX=>(comp_law op a b a0 a1 b0 b1 X).mono fun e w' ⟨h1,n,h2⟩=>⟨h1,h2 ▸ hX.trans (((ref.Touch.refl [] X).drewN n).below hX.size sP)⟩
 have HI:Hid (∀X,Below V.heap.size V X->Calls Tryz.prog 3 #[.agg #[.int .i64 pg,.string im,.int .u32 ba,.int .u32 en,.slice oa l.length ca,.int .i64 fu,.int .i64 sl,.int .i64 ar]] X (fun e w'=>e=.returned (.bool true)/\Below V.heap.size V w')):=fun X hX=>(interprets_any pg im ba en fu sl ar oa l ca X ba0 ba1 en0 en1 (HA.out.below hX) (fun w' x hb=>HTB.out w' x (hX.trans (hb.mono hX.size)))).mono fun e w' ⟨h1,h2⟩=>⟨h1,hX.trans (h2.mono hX.size)⟩
 have HR2:Hid (∀X,Below V.heap.size V X->Calls Tryz.prog 4 #[.agg #[.int .i64 pg2,.string im2,.int .u32 ba2,.int .u32 en2,.slice oa2 l2.length ca2,.int .i64 fu2,.int .i64 sl2,.int .i64 ar2]] X (fun e w'=>e=.returned (.bool true)/\Below V.heap.size V w')):=fun X hX=>(runs_any pg2 im2 ba2 en2 fu2 sl2 ar2 oa2 l2 ca2 X ba02 ba12 en02 en12 (HA2.out.below hX) (fun w' x hb=>HTB.out w' x (hX.trans (hb.mono hX.size)))).mono fun e w' ⟨h1,h2⟩=>⟨h1,hX.trans (h2.mono hX.size)⟩
 have HR:Hid (∀X,Below V.heap.size V X->Calls Tryz.prog 4 #[.agg #[.int .i64 pg,.string im,.int .u32 ba,.int .u32 en,.slice oa l.length ca,.int .i64 fu,.int .i64 sl,.int .i64 ar]] X (fun e w'=>e=.returned (.bool true)/\Below V.heap.size V w')):=fun X hX=>(runs_any pg im ba en fu sl ar oa l ca X ba0 ba1 en0 en1 (HA.out.below hX) (fun w' x hb=>HTB.out w' x (hX.trans (hb.mono hX.size)))).mono fun e w' ⟨h1,h2⟩=>⟨h1,hX.trans (h2.mono hX.size)⟩
 have HP:Hid (∀X,Below V.heap.size V X->Calls Tryz.prog 5 #[.agg #[.int .i64 pg,.string im,.int .u32 ba,.int .u32 en,.slice oa l.length ca,.int .i64 fu,.int .i64 sl,.int .i64 ar]] X (fun e w'=>e=.returned (.bool true)/\Below V.heap.size V w')):=fun X hX=>(profiles_any pg im ba en fu sl ar oa l ca X ba0 ba1 en0 en1 (HA.out.below hX) (fun w' x hb=>HTB.out w' x (hX.trans (hb.mono hX.size)))).mono fun e w' ⟨h1,h2⟩=>⟨h1,hX.trans (h2.mono hX.size)⟩
 have HE:Hid (((w.alloc (.cells #[.int .i64 pg,.string im,.int .u32 ba,.int .u32 en,.slice oa l.length ca,.int .i64 fu,.int .i64 sl,.int .i64 ar] 25)).alloc (.cells #[.int .i64 pg2,.string im2,.int .u32 ba2,.int .u32 en2,.slice oa2 l2.length ca2,.int .i64 fu2,.int .i64 sl2,.int .i64 ar2] 25))=V):=hV
 clear HA HA2 HTB hV
 go_enter Tryz.func6,Tryz.ntmps6
 go_wp2_with fail
 rw[HE.out]
 clear HE
 go_loopw [13] (fun s wr=>∃k:Nat,s=.int .i64 k/\k<=2/\Below V.heap.size V wr) (fun s _=>2-(intOf s).toNat)
 case atStart=>exact⟨0,rfl,by omega,Below.refl _ _⟩
 case round=>
  obtain⟨k,rfl,hk,hb⟩:=hrel
  have HB:Hid (Below V.heap.size V wr):=hb
  clear hb
  by_cases hk2:k<2
  ·have d1:decide ((k:Int)<2)=true:=by simp;omega
   go_wp2_with fail
   refine(Calls.mono (HD.out _ HB.out) ?_)
   rintro e w1 ⟨rfl,hb1⟩
   have HB1:Hid (Below V.heap.size V w1):=hb1
   clear hb1
   go_wp2_with fail
   refine(Calls.mono (HC.out _ HB1.out) ?_)
   rintro e w2 ⟨rfl,hb2⟩
   have HB2:Hid (Below V.heap.size V w2):=hb2
   clear hb2
   obtain⟨z0,z1,z2,z3,z4,z5,z6,z7⟩:=HS1.out w2 HB2.out
   go_wp2_with fail
   refine(Calls.mono (HI.out _ HB2.out) ?_)
   rintro e w3 ⟨rfl,hb3⟩
   have HB3:Hid (Below V.heap.size V w3):=hb3
   clear hb3 z0 z1 z2 z3 z4 z5 z6 z7
   obtain⟨z0,z1,z2,z3,z4,z5,z6,z7⟩:=HS2.out w3 HB3.out
   go_wp2_with fail
   refine(Calls.mono (HR2.out _ HB3.out) ?_)
   rintro e w4 ⟨rfl,hb4⟩
   have HB4:Hid (Below V.heap.size V w4):=hb4
   clear hb4 z0 z1 z2 z3 z4 z5 z6 z7
   obtain⟨z0,z1,z2,z3,z4,z5,z6,z7⟩:=HS1.out w4 HB4.out
   go_wp2_with fail
   refine(Calls.mono (HR.out _ HB4.out) ?_)
   rintro e w5 ⟨rfl,hb5⟩
   have HB5:Hid (Below V.heap.size V w5):=hb5
   clear hb5 z0 z1 z2 z3 z4 z5 z6 z7
   obtain⟨z0,z1,z2,z3,z4,z5,z6,z7⟩:=HS1.out w5 HB5.out
   go_wp2_with fail
   refine(Calls.mono (HP.out _ HB5.out) ?_)
   rintro e w6 ⟨rfl,hb6⟩
   have HB6:Hid (Below V.heap.size V w6):=hb6
   clear hb6 z0 z1 z2 z3 z4 z5 z6 z7
   go_wp2_with fail
   go_roundw
   case rel=>exact⟨k+1,by go_num,by omega,HB6.out⟩
   case measure=>simp[intOf];omega
  ·have d1:decide ((k:Int)<2)=false:=by simp;omega
   go_wp2_with fail
   go_ret
   exact⟨rfl,HV.out.trans (HB.out.mono HV.out.size)⟩
end law
end Go.Proofs.YtjikimpejlmdiaaGreatDoor

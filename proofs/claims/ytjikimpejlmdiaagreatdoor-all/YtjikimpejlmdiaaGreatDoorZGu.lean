import Derived.Test.YtjikimpejlmdiaaGreatDoorZGt
import Derived.BigQuiet
set_option maxHeartbeats 4000000
set_option linter.unusedVariables false
set_option linter.unusedSimpArgs false
set_option maxRecDepth 10000
namespace Go.Proofs.YtjikimpejlmdiaaGreatDoor
theorem Xl0{p:Prop}(h:p:=by
 go_wp2_with fail
 go_quiet (fail)
 go_wp2_with fail
 go_roundw
 case rel=>exact⟨k+1,by omega,by simp,_,rfl⟩
 case measure=>simp[intOf];omega):p:=h
theorem Xl1{p:Prop}(h:p:=by
 rintro e w' ⟨rfl,h4⟩
 exact⟨mz,0,_,.slice none 0 0,by rw[rep_mz],Or.inr ⟨hw,rfl,rfl,rfl⟩,World.ownsRow_nil _ _ _ _,h4⟩):p:=h
theorem Xl2{p:Prop}(h:p:=by
 rintro e w' ⟨rfl,ht⟩
 exact⟨false,rfl,fun q=>(by cases q),ht⟩):p:=h
namespace law
open ChangeShapes WideShapes ChangeAt RowKit nums dnums mach
attribute [local go_sem ↓] Go.wp_at_zero Go.wp_at_succ
theorem texts_nil(oa ob:Option Addr)(ca cb:Nat)(w:World):Calls Tryz.prog 17 #[.slice oa 0 ca,.slice ob 0 cb] w fun e w'=>e=.returned (.bool true)/\ref.Touch [] w w':=by
 go_enter Tryz.func17,Tryz.ntmps17
 go_wp2_with fail
 go_loopw [5] (fun i wr=>i=.int .i64 0/\wr=w) (fun i _=>0)
 case atStart=>exact⟨rfl,rfl⟩
 case round=>
  obtain⟨rfl,rfl⟩:=hrel
  go_wp2_with fail
  go_ret
  exact⟨rfl,ref.Touch.refl _ _⟩
theorem texts_row(ad bd:Addr)(l:List ByteArray)(ca cb:Nat)(w:World)(h2:l.length<=4096)(ha:RowAt l ad w)(hb:RowAt l bd w):
  Calls Tryz.prog 17 #[.slice (some ad) l.length ca,.slice (some bd) l.length cb] w fun e w'=>e=.returned (.bool true)/\ref.Touch [] w w':=by
 have HA:Hid (RowAt l ad w):=ha
 have HB:Hid (RowAt l bd w):=hb
 clear ha hb
 go_enter Tryz.func17,Tryz.ntmps17
 go_wp2_with fail
 go_loopw [5] (fun i wr=>∃k:Nat,k<=l.length/\i=.int .i64 k/\∃n,wr=w.drewN n) (fun i _=>l.length-(intOf i).toNat)
 case atStart=>exact⟨0,by omega,rfl,0,rfl⟩
 case round=>
  obtain⟨k,hk,rfl,n,rfl⟩:=hrel
  by_cases hlt:k<l.length
  ·obtain⟨s,hsk⟩:∃s,l[k]?=some s:=⟨_,List.getElem?_eq_getElem hlt⟩
   have ca1:=HA.out k s hsk
   have cb1:=HB.out k s hsk
   have q1:(k:Int)<(l.length:Int):=by omega
   exact Xl0
  ·have q1:(l.length:Int)<=(k:Int):=by omega
   go_wp2_with fail
   go_ret
   exact⟨rfl,(ref.Touch.refl _ _).drewN _⟩
theorem rep_reg(m:M)(o:Int)(vE:Value)(k:Nat)(hk:k<32):(prog.repP m o vE)[2+k]?=some (.int .u32 (m.regs k)):=by
 have:k=0\/k=1\/k=2\/k=3\/k=4\/k=5\/k=6\/k=7\/k=8\/k=9\/k=10\/k=11\/k=12\/k=13\/k=14\/k=15\/k=16\/k=17\/k=18\/k=19\/k=20\/k=21\/k=22\/k=23\/k=24\/k=25\/k=26\/k=27\/k=28\/k=29\/k=30\/k=31:=by omega
 rcases this with rfl|rfl|rfl|rfl|rfl|rfl|rfl|rfl|rfl|rfl|rfl|rfl|rfl|rfl|rfl|rfl|rfl|rfl|rfl|rfl|rfl|rfl|rfl|rfl|rfl|rfl|rfl|rfl|rfl|rfl|rfl|rfl<;>rfl
theorem row_ev{w:World}{base:Nat}{v:Value}{l:List Ev}(h:w.ownsRow base 52 3 v l.length (ref.evCells l))(k:Nat)(x:Ev)(hk:l[k]?=some x):
  ∃g c,v=.slice (some ⟨g,0,none⟩) l.length c/\w.cell? ⟨g,k*3,none⟩=some (.int .u32 x.call)/\w.cell? ⟨g,k*3+1,none⟩=some (.int .u32 x.result)/\w.cell? ⟨g,k*3+2,none⟩=some (.string x.data):=by
 have hl:k<l.length:=(List.getElem?_eq_some_iff.1 hk).1
 rcases h.2 with⟨h1,h0⟩|⟨g,cap,cur,hv,hb,hg,hn,hm,hs,ht⟩
 ·omega
 ·have cells:∀(l:List Ev) (k:Nat) (x:Ev),l[k]?=some x->(ref.evCells l)[k*3]?=some (.int .u32 x.call)/\(ref.evCells l)[k*3+1]?=some (.int .u32 x.result)/\(ref.evCells l)[k*3+2]?=some (.string x.data):=by
   intro l
   induction l with
   |nil=>intro k x h;simp at h
   |cons y r ih=>
    intro k x h
    cases k with
    |zero=>simp at h;subst h;simp[ref.evCells]
    |succ k=>
     have:=ih k x (by simpa using h)
     have e:ref.evCells (y::r)=[.int .u32 y.call,.int .u32 y.result,.string y.data]++ref.evCells r:=by simp[ref.evCells]
     rw[e,show(k+1)*3=k*3+3 by omega]
     simpa using this
  obtain⟨a1,a2,a3⟩:=cells l k x hk
  have get:∀j u,(ref.evCells l)[j]?=some u->w.cell? ⟨g,j,none⟩=some u:=fun j u hu=>by
   rw[cell_of_row w g j cur 52 (0,0) hg]
   rw[<-ht,List.getElem?_take]at hu
   by_cases c:j<l.length*3
   ·rw[if_pos c]at hu;simpa using hu
   ·rw[if_neg c]at hu;cases hu
  exact⟨g,cap,hv,get _ _ a1,get _ _ a2,get _ _ a3⟩
theorem same_any(m:M)(o:Int)(v1 v2:Value)(B1 B2:Nat)(w:World)(h1:w.ownsRow B1 52 3 v1 m.evs.length (ref.evCells m.evs))(h2:w.ownsRow B2 52 3 v2 m.evs.length (ref.evCells m.evs))(hev:m.evs.length<=2000):
  Calls Tryz.prog 16 #[.agg (prog.repP m o v1),.agg (prog.repP m o v2),.bool true] w fun e w'=>e=.returned (.bool true)/\ref.Touch [] w w':=by
 have tW:ref.Touch [] w ((w.alloc (.cells (prog.repP m o v1) 32)).alloc (.cells (prog.repP m o v2) 32)):=((ref.Touch.refl _ _).alloc _).alloc _
 have HO1:Hid (w.ownsRow B1 52 3 v1 m.evs.length (ref.evCells m.evs)):=h1
 have HO2:Hid (w.ownsRow B2 52 3 v2 m.evs.length (ref.evCells m.evs)):=h2
 have HT:Hid (ref.Touch [] w ((w.alloc (.cells (prog.repP m o v1) 32)).alloc (.cells (prog.repP m o v2) 32))):=tW
 obtain⟨o1,n1,c1,hv1⟩:∃o1 n1 c1,v1=.slice o1 n1 c1/\n1=m.evs.length:=by
  rcases h1.2 with⟨rfl,h0⟩|⟨g,cap,cur,rfl,_⟩
  ·exact⟨none,0,0,rfl,h0.symm⟩
  ·exact⟨_,_,_,rfl,rfl⟩
 obtain⟨o2,n2,c2,hv2⟩:∃o1 n1 c1,v2=.slice o1 n1 c1/\n1=m.evs.length:=by
  rcases h2.2 with⟨rfl,h0⟩|⟨g,cap,cur,rfl,_⟩
  ·exact⟨none,0,0,rfl,h0.symm⟩
  ·exact⟨_,_,_,rfl,rfl⟩
 obtain⟨rfl,rfl⟩:=hv1
 obtain⟨rfl,rfl⟩:=hv2
 have a0:(prog.repP m o (.slice o1 m.evs.length c1))[0]?=some (.int .i64 o):=rfl
 have b0:(prog.repP m o (.slice o2 m.evs.length c2))[0]?=some (.int .i64 o):=rfl
 have a1:(prog.repP m o (.slice o1 m.evs.length c1))[1]?=some (.int .u32 m.pc):=rfl
 have b1:(prog.repP m o (.slice o2 m.evs.length c2))[1]?=some (.int .u32 m.pc):=rfl
 have a34:(prog.repP m o (.slice o1 m.evs.length c1))[34]?=some (.int .u32 m.brk):=rfl
 have b34:(prog.repP m o (.slice o2 m.evs.length c2))[34]?=some (.int .u32 m.brk):=rfl
 have a35:(prog.repP m o (.slice o1 m.evs.length c1))[35]?=some (.string (ref.memD m.mem 0 m.size)):=rfl
 have b35:(prog.repP m o (.slice o2 m.evs.length c2))[35]?=some (.string (ref.memD m.mem 0 m.size)):=rfl
 have a36:(prog.repP m o (.slice o1 m.evs.length c1))[36]?=some ((.slice o1 m.evs.length c1)):=rfl
 have b36:(prog.repP m o (.slice o2 m.evs.length c2))[36]?=some ((.slice o2 m.evs.length c2)):=rfl
 have a37:(prog.repP m o (.slice o1 m.evs.length c1))[37]?=some (.int .i64 m.steps):=rfl
 have b37:(prog.repP m o (.slice o2 m.evs.length c2))[37]?=some (.int .i64 m.steps):=rfl
 have a38:(prog.repP m o (.slice o1 m.evs.length c1))[38]?=some (.int .i64 m.built):=rfl
 have b38:(prog.repP m o (.slice o2 m.evs.length c2))[38]?=some (.int .i64 m.built):=rfl
 clear h1 h2 tW
 go_enter Tryz.func16,Tryz.ntmps16
 go_wp2_with fail
 go_loopw [7] (fun i wr=>∃k:Nat,k<=32/\i=.int .i64 k/\∃n,wr=((w.alloc (.cells (prog.repP m o (.slice o1 m.evs.length c1)) 32)).alloc (.cells (prog.repP m o (.slice o2 m.evs.length c2)) 32)).drewN n) (fun i _=>32-(intOf i).toNat)
 case atStart=>exact⟨0,by omega,rfl,0,rfl⟩
 case round=>
  obtain⟨k,hk,rfl,n,rfl⟩:=hrel
  by_cases hlt:k<32
  ·have ra:=rep_reg m o (.slice o1 m.evs.length c1) k hlt
   have rb:=rep_reg m o (.slice o2 m.evs.length c2) k hlt
   have q1:(k:Int)<32:=by omega
   have q2:(0:Int)<=(k:Int):=by omega
   exact Xl0
  ·have q1:(32:Int)<=(k:Int):=by omega
   go_wp2_with fail
   go_loopw [8] (fun i wr=>∃k:Nat,k<=m.evs.length/\i=.int .i64 k/\∃n,wr=((w.alloc (.cells (prog.repP m o (.slice o1 m.evs.length c1)) 32)).alloc (.cells (prog.repP m o (.slice o2 m.evs.length c2)) 32)).drewN n) (fun i _=>m.evs.length-(intOf i).toNat)
   case atStart=>exact⟨0,by omega,rfl,n,rfl⟩
   case round=>
    obtain⟨k2,hk2,rfl,n2,rfl⟩:=hrel
    by_cases hlt2:k2<m.evs.length
    ·obtain⟨x,hx⟩:∃x,m.evs[k2]?=some x:=⟨_,List.getElem?_eq_getElem hlt2⟩
     obtain⟨g1,d1,hv1,e1,e2,e3⟩:=row_ev HO1.out k2 x hx
     obtain⟨g2,d2,hv2,i1,i2,i3⟩:=row_ev HO2.out k2 x hx
     injection hv1 with hv1 hn1 hd1
     injection hv2 with hv2 hn2 hd2
     clear hn1 hn2
     subst hv1
     subst hv2
     subst hd1
     subst hd2
     have lg1:g1<w.heap.size:=World.block_lt_of_cell? _ _ e1
     have lg2:g2<w.heap.size:=World.block_lt_of_cell? _ _ i1
     have q3:(k2:Int)<(m.evs.length:Int):=by omega
     have q4:(0:Int)<=(k2:Int):=by omega
     go_wp2_with fail
     go_quiet (fail)
     go_wp2_with fail
     go_roundw
     case rel=>exact⟨k2+1,by omega,by simp,_,rfl⟩
     case measure=>simp[intOf];omega
    ·have q3:(m.evs.length:Int)<=(k2:Int):=by omega
     go_wp2_with fail
     go_ret
     exact⟨rfl,HT.out.drewN _⟩
end law
namespace law
open ChangeShapes WideShapes ChangeAt RowKit nums dnums mach
attribute [local go_sem ↓] Go.wp_at_zero Go.wp_at_succ
def mz:M:={out:=0,pc:=0,regs:=fun _=>0,brk:=0,evs:=[],steps:=0,built:=0,mem:=fun _=>0,size:=0,low:=0,ans:=[],fuel:=0,ended:=false,nslots:=0,slots:=fun _=>(0,0),arena:=0,used:=0,cur:=(0,0),done:=0,blocks:=[] }
theorem rep_mz:ref.rep0=prog.repP mz 0 (.slice none 0 0):=rfl
theorem rep_eq(m:M)(vE:Value)(h:m.built=0):(ref.repL m vE).toArray=prog.repP m m.out vE:=by
 simp[ref.repL,List.range,List.range.loop,ref.lay,prog.repP,h]
def Res (pg:Int) (im:ByteArray) (ba en fu sl ar:Int) (ans:List ByteArray) (m:M) (o er:Int):Prop:=(ref.wrong pg im ba fu sl ar false=0/\MRun (ref.start pg im ba en ans fu sl ar false) m/\m.ended=true/\o=m.out/\er=0)\/(¬ref.wrong pg im ba fu sl ar false=0/\m=mz/\o=0/\er=ref.wrong pg im ba fu sl ar false)
theorem Res.one {pg:Int}{im:ByteArray}{ba en fu sl ar:Int}{ans:List ByteArray}{m m':M}{o o' er er':Int}(h:Res pg im ba en fu sl ar ans m o er)(h':Res pg im ba en fu sl ar ans m' o' er'):m=m'/\o=o'/\er=er':=by
 rcases h with⟨h0,h1,h2,h3,h4⟩|⟨h0,h1,h2,h3⟩
 ·rcases h' with⟨k0,k1,k2,k3,k4⟩|⟨k0,_⟩
  ·obtain⟨a,ha⟩:=h1.reach
   obtain⟨b,hb⟩:=k1.reach
   have e:m=m':=by
    rw[ha,hb]
    exact run_one a b _ (by rw[<-ha];exact h2) (by rw[<-hb];exact k2)
   exact⟨e,by rw[h3,k3,e],by rw[h4,k4]⟩
  ·exact absurd h0 k0
 ·rcases h' with⟨k0,_⟩|⟨k0,k1,k2,k3⟩
  ·exact absurd k0 h0
  ·exact⟨by rw[h1,k1],by rw[h2,k2],by rw[h3,k3]⟩
theorem Res.evs {pg:Int}{im:ByteArray}{ba en fu sl ar:Int}{ans:List ByteArray}{m:M}{o er:Int}(h:Res pg im ba en fu sl ar ans m o er):m.evs.length<=2000:=by
 rcases h with⟨h0,h1,h2,h3,h4⟩|⟨h0,h1,h2,h3⟩
 ·have:=h1.good.evs
  have:=h1.good.fine.within
  have:=h1.good.fine.fuel.2
  omega
 ·rw[h1];exact Nat.zero_le _
theorem ans_slice{B:Nat}{l:List ByteArray}{vA:Value}{w:World}(h:ref.AnsAt B l vA w):∃oa na ca,vA=.slice oa na ca:=by
 obtain⟨oa,cap,h1,_⟩:=h
 exact⟨_,_,_,h1⟩
def IntQ (pg:Int) (im:ByteArray) (ba en fu sl ar:Int) (ans:List ByteArray) (w:World) (e:Ending) (w':World):Prop:=∃m o er v1,e=.returned (.tuple #[.agg (prog.repP m o v1),.int .i64 er])/\Res pg im ba en fu sl ar ans m o er/\w'.ownsRow w.heap.size 52 3 v1 m.evs.length (ref.evCells m.evs)/\Below w.heap.size w w'
def PlayQ (pg:Int) (im:ByteArray) (ba en fu sl ar:Int) (ans:List ByteArray) (w:World) (e:Ending) (w':World):Prop:=∃m o er v1,e=.returned (.tuple #[.agg (prog.repP m o v1),.slice none 0 0,.int .i64 er])/\Res pg im ba en fu sl ar ans m o er/\w'.ownsRow w.heap.size 52 3 v1 m.evs.length (ref.evCells m.evs)/\Below w.heap.size w w'
theorem interpret_res(pg:Int)(im:ByteArray)(ba en fu sl ar:Int)(ans:List ByteArray)(ba0:0<=ba)(ba1:ba<=4294967295)(en0:0<=en)(en1:en<=4294967295)(him:im.size<=1048576)(vA:Value)(w:World)(ha:ref.AnsAt w.heap.size ans vA w)(hT:∀w' x,Below w.heap.size w w'->decodes.Tabs w' x):
  Calls Tryz.prog 14 #[.agg #[.int .i64 pg,.string im,.int .u32 ba,.int .u32 en,vA,.int .i64 fu,.int .i64 sl,.int .i64 ar]] w (IntQ pg im ba en fu sl ar ans w):=by
 obtain⟨oa,na,ca,hv⟩:=ans_slice ha
 by_cases hw:ref.wrong pg im ba fu sl ar false=0
 ·refine(prog.interpret_ok pg im ba en vA fu sl ar ba0 ba1 him w oa na ca hv ans ha en0 en1 hw hT).mono ?_
  rintro e w' ⟨m,vE,rfl,h1,h2,h3,h4⟩
  exact⟨m,m.out,0,vE,rfl,Or.inl ⟨hw,h1,h2,rfl,rfl⟩,h3,h4⟩
 ·refine(prog.interpret_err pg im ba en vA fu sl ar ba0 ba1 him w oa na ca hv hw).mono ?_
  exact Xl1
theorem play_res(pg:Int)(im:ByteArray)(ba en fu sl ar:Int)(ans:List ByteArray)(ba0:0<=ba)(ba1:ba<=4294967295)(en0:0<=en)(en1:en<=4294967295)(him:im.size<=1048576)(vA:Value)(w:World)(ha:ref.AnsAt w.heap.size ans vA w):
  Calls Tryz.prog 15 #[.agg #[.int .i64 pg,.string im,.int .u32 ba,.int .u32 en,vA,.int .i64 fu,.int .i64 sl,.int .i64 ar],.bool false] w (PlayQ pg im ba en fu sl ar ans w):=by
 obtain⟨oa,na,ca,hv⟩:=ans_slice ha
 by_cases hw:ref.wrong pg im ba fu sl ar false=0
 ·refine(ref.play_ok pg im ba en vA fu sl ar ba0 ba1 him w oa na ca hv ans ha en0 en1 hw).mono ?_
  rintro e w' ⟨m,vE,rfl,h1,h2,h3,h4⟩
  obtain⟨k,hk⟩:=h1.reach
  have hb:m.built=0:=by rw[hk];exact run_built k _ rfl
  exact⟨m,m.out,0,vE,by rw[rep_eq m vE hb],Or.inl ⟨hw,h1,h2,rfl,rfl⟩,h3,h4⟩
 ·refine(ref.play_err pg im ba en vA fu sl ar ba0 ba1 him w oa na ca hv hw).mono ?_
  exact Xl1
def ArgAt (l:List ByteArray) (oa:Option Addr) (ca:Nat) (w:World):Prop:=
 l.length<=ca/\ca<=maxLen/\∀k s,l[k]?=some s->∃ad,oa=some ad/\ad.block<w.heap.size/\w.cell? (ad.add k)=some (.string s)
theorem ArgAt.below {l:List ByteArray}{oa:Option Addr}{ca:Nat}{w w':World}(h:ArgAt l oa ca w)(hb:Below w.heap.size w w'):ArgAt l oa ca w':=by
 refine⟨h.1,h.2.1,fun k s hk=> ?_⟩
 obtain⟨ad,h1,h2,h3⟩:=h.2.2 k s hk
 refine⟨ad,h1,Nat.lt_of_lt_of_le h2 hb.size, ?_⟩
 rw[World.cell?_of_block (w:=w) (hb.block (ad.add k).block (by rw[block_add];exact h2))];exact h3
theorem ArgAt.ans {im:ByteArray}{l:List ByteArray}{oa:Option Addr}{ca:Nat}{w:World}(h:ArgAt l oa ca w)(hf:Few im l):ref.AnsAt w.heap.size l (.slice oa l.length ca) w:=
 ⟨oa,ca,rfl,h.1,hf.2.1,h.2.1,h.2.2,hf.2.2⟩
theorem ArgAt.row {l:List ByteArray}{oa:Option Addr}{ca:Nat}{w:World}(h:ArgAt l oa ca w)(hp:0<l.length):∃ad,oa=some ad/\RowAt l ad w/\ad.block<w.heap.size:=by
 obtain⟨s,hs⟩:∃s,l[0]?=some s:=⟨_,List.getElem?_eq_getElem hp⟩
 obtain⟨ad,h1,h2,h3⟩:=h.2.2 0 s hs
 refine⟨ad,h1,fun k t hk=> ?_,h2⟩
 obtain⟨ad',g1,g2,g3⟩:=h.2.2 k t hk
 rw[h1]at g1
 injection g1 with g1
 subst g1
 exact g3
def FewR (im:ByteArray) (l:List ByteArray) (w:World) (e:Ending) (w':World):Prop:=∃y:Bool,e=.returned (.bool y)/\(y=true->Few im l)/\ref.Touch [] w w'
theorem few_any(pg:Int)(im:ByteArray)(ba en fu sl ar:Int)(oa:Option Addr)(l:List ByteArray)(ca:Nat)(w:World)(h:ArgAt l oa ca w):Calls Tryz.prog 12 #[.agg #[.int .i64 pg,.string im,.int .u32 ba,.int .u32 en,.slice oa l.length ca,.int .i64 fu,.int .i64 sl,.int .i64 ar]] w (FewR im l w):=by
 by_cases h1:im.size<=1048576
 ·by_cases h2:l.length<=4096
  ·by_cases hp:0<l.length
   ·obtain⟨ad,rfl,hr,hl⟩:=h.row hp
    refine(few_row pg im ba en fu sl ar ad l ca w h1 h2 hr (fun _=>hl)).mono ?_
    rintro e w' ⟨y,rfl,hy,ht⟩
    exact⟨y,rfl,fun q=>⟨h1,h2,hy.1 q⟩,ht⟩
   ·obtain rfl:l=[]:=List.eq_nil_of_length_eq_zero oM
    refine(few_nil pg im ba en fu sl ar oa ca w h1).mono ?_
    rintro e w' ⟨rfl,ht⟩
    exact⟨true,rfl,fun _=>⟨h1,h2,by simp⟩,ht⟩
  ·refine(few_ln pg im ba en fu sl ar oa l.length ca w h1 h2).mono ?_
   exact Xl2
 ·refine(few_im pg im ba en fu sl ar (.slice oa l.length ca) w h1).mono ?_
  exact Xl2
def CopR (pg:Int) (im:ByteArray) (ba en fu sl ar:Int) (l:List ByteArray) (w:World) (e:Ending) (w':World):Prop:=
 ∃g ca,e=.returned (.agg #[.int .i64 pg,.string im,.int .u32 ba,.int .u32 en,.slice (some ⟨g,0,none⟩) l.length ca,.int .i64 fu,.int .i64 sl,.int .i64 ar])/\ArgAt l (some ⟨g,0,none⟩) ca w'/\w.heap.size<=g/\ref.Touch [] w w'
theorem copied_any(pg:Int)(im:ByteArray)(ba en fu sl ar:Int)(oa:Option Addr)(l:List ByteArray)(ca:Nat)(w:World)(h:ArgAt l oa ca w)(hf:Few im l):Calls Tryz.prog 13 #[.agg #[.int .i64 pg,.string im,.int .u32 ba,.int .u32 en,.slice oa l.length ca,.int .i64 fu,.int .i64 sl,.int .i64 ar]] w (CopR pg im ba en fu sl ar l w):=by
 have fin:∀(e:Ending) (w':World),CopQ pg im ba en fu sl ar l w e w'->CopR pg im ba en fu sl ar l w e w':=by
  rintro e w' ⟨g,c,h1,h2,h3,h4,h5,h6,h7⟩
  exact⟨g,c,h1,⟨h3,h4,fun k s hk=>⟨_,rfl,h6,h2 k s hk⟩⟩,h5,h7⟩
 by_cases hp:0<l.length
 ·obtain⟨ad,rfl,hr,hl⟩:=h.row hp
  exact(copied_row pg im ba en fu sl ar ad l ca w hp hf.2.1 hr hl).mono fin
 ·obtain rfl:l=[]:=List.eq_nil_of_length_eq_zero oM
  exact(copied_nil pg im ba en fu sl ar oa ca w).mono fin
theorem texts_any(oa ob:Option Addr)(l:List ByteArray)(ca cb:Nat)(w:World)(h2:l.length<=4096)(ha:ArgAt l oa ca w)(hb:ArgAt l ob cb w):
  Calls Tryz.prog 17 #[.slice oa l.length ca,.slice ob l.length cb] w fun e w'=>e=.returned (.bool true)/\ref.Touch [] w w':=by
 by_cases hp:0<l.length
 ·obtain⟨ad,rfl,hr,_⟩:=ha.row hp
  obtain⟨bd,rfl,hs,_⟩:=hb.row hp
  exact texts_row ad bd l ca cb w h2 hr hs
 ·obtain rfl:l=[]:=List.eq_nil_of_length_eq_zero oM
  exact texts_nil oa ob ca cb w
end law
end Go.Proofs.YtjikimpejlmdiaaGreatDoor

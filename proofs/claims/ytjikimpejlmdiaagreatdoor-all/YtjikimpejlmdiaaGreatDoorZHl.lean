import Derived.Test.YtjikimpejlmdiaaGreatDoorZHj
import Derived.Test.YtjikimpejlmdiaaGreatDoorZHk
import Derived.Deep.Cut
import Derived.Deep.CutRange
import Derived.BigRegion
import Derived.BigQuiet
import Derived.Deep.DrawnRows
set_option maxHeartbeats 4000000
set_option linter.unusedVariables false
set_option linter.unusedSimpArgs false
set_option maxRecDepth 10000
namespace Go.Proofs.YtjikimpejlmdiaaGreatDoor
theorem XA0{p:Prop}(h:p:=by
 go_wp2_with fail
 go_quiet (first|(go_at_call 165;refine Calls.quiet_of_same (less_any _ _ _)))
 go_wp2
 go_meet
 exact⟨rfl,HU.out.row.dn _,HU.out.rr,HU.out.qd,HU.out.tch.drewN _⟩):p:=h
theorem XA1{p:Prop}(h:p:=by
 refine bodyPost_ret (results_none rfl _ _ _) rfl ?_
 exact K.out):p:=h
namespace so
open ChangeShapes WideShapes ChangeAt RowKit Proofs.YtjikimpejlmdiaaGreatDoor
attribute [local go_sem ↓] Go.wp_at_zero Go.wp_at_succ
structure PS (g n a b:Nat) (d:Nat->Int) (w:World) (x y:Nat) (e:Nat->Int) (Y:World):Prop where
 row:RowU g n e Y
 rr:Rr n a b d e
 qd:Qd a x y b e
 tch:ref.Touch [g] w Y
theorem PS.go {g n a b:Nat}{d:Nat->Int}{w:World}{x y:Nat}{e f:Nat->Int}{Y Z:World}(h:PS g n a b d w x y e Y)(hx:a<=x)(hy:y<=b)(k:RowU g n f Z)(r:Rr n x y e f)(t:ref.Touch [g] Y Z):PS g n a b d w x y f Z:=
 ⟨k,h.rr.trans (r.wide hx hy),h.qd.rr hx hy r,h.tch.trans t⟩
def PdqQ (g n a b:Nat) (d:Nat->Int) (w:World) (e:Ending) (w':World):Prop:=e=.returned (.tuple #[])/\∃d',RowU g n d' w'/\Rr n a b d d'/\Sd a b d'/\ref.Touch [g] w w'
theorem PS.fin {g n a b:Nat}{d:Nat->Int}{w:World}{x y:Nat}{e f:Nat->Int}{Y Z:World}(h:PS g n a b d w x y e Y)(hx:a<=x)(hy:y<=b)(k:RowU g n f Z)(r:Rr n x y e f)(s:Sd x y f)(t:ref.Touch [g] Y Z):PdqQ g n a b d w (.returned (.tuple #[])) Z:=
 ⟨rfl,f,k,h.rr.trans (r.wide hx hy),(h.qd.rr hx hy r).done s,h.tch.trans t⟩
theorem chp_any(g n cap a b:Nat)(d:Nat->Int)(w:World)(h:RowU g n d w)(hn:n<=5000)(hab:a+12<b)(hb:b<=n):
  Calls Tryz.prog 162 #[.slice (some ⟨g,0,none⟩) n cap,.int .i64 a,.int .i64 b] w fun e w'=>∃(p:Nat) (hint:Int),e=.returned (.tuple #[.int .i64 p,.int .i64 hint])/\a<=p/\p<b/\RowU g n d w'/\ref.Touch [] w w':=by
 by_cases c:50<=b-a
 ·exact chp_b g n cap a b d w h hn hab hb c
 ·exact chp_s g n cap a b d w h hn hab hb c
theorem pdq_any(g n cap:Nat)(hn:n<=5000):∀(m a b lim:Nat) (d:Nat->Int) (w:World),RowU g n d w->a<=b->b<=n->b-a<=m->lim<=64->Inj n d->Lo a b d->
  Calls Tryz.prog 142 #[.slice (some ⟨g,0,none⟩) n cap,.int .i64 a,.int .i64 b,.int .i64 lim] w (PdqQ g n a b d w):=by
 intro m
 induction m using Nat.strongRecOn with
 |ind m ih=>
 intro a b lim d w h hab hb hm hlim hinj hlo
 have IH:Hid (∀m',m'<m->∀(a b lim:Nat) (d:Nat->Int) (w:World),RowU g n d w->a<=b->b<=n->b-a<=m'->lim<=64->Inj n d->Lo a b d->Calls Tryz.prog 142 #[.slice (some ⟨g,0,none⟩) n cap,.int .i64 a,.int .i64 b,.int .i64 lim] w (PdqQ g n a b d w)):=ih
 have H0:Hid (PS g n a b d w a b d w):=⟨h,Rr.refl _ _ _ _,fun i j h1 h2 h3 h4=>absurd ⟨h1,h3⟩ h4,ref.Touch.refl _ _⟩
 have HI:Hid (Inj n d):=hinj
 have HL:Hid (Lo a b d):=hlo
 clear ih h hinj hlo
 go_enter Tryz.func142,Tryz.ntmps142
 go_wp2
 go_loopw [1,2,3,8,9] (fun s1 s2 s3 s8 s9 wr=>∃(x y lm:Nat) (wb wp:Bool) (e:Nat->Int),s1=.int .i64 x/\s2=.int .i64 y/\s3=.int .i64 lm/\s8=.bool wb/\s9=.bool wp/\a<=x/\x<=y/\y<=b/\lm<=64/\PS g n a b d w x y e wr) (fun s1 s2 _ _ _ _=>(intOf s2-intOf s1).toNat)
 case atStart=>exact⟨a,b,lim,true,true,d,rfl,rfl,rfl,rfl,rfl,by omega,by omega,by omega,hlim,H0.out⟩
 case round=>
  obtain⟨x,y,lm,wb,wp,e,rfl,rfl,rfl,rfl,rfl,hx,hxy,hy,hlm,hps⟩:=hrel
  have HP:Hid (PS g n a b d w x y e wr):=hps
  clear hps H0
  obtain⟨l,hl⟩:∃l:Nat,(y:Int)-(x:Int)=(l:Int):=⟨y-x,by omega⟩
  by_cases h12:l<=12
  ·have d12:decide ((l:Int)<=12)=true:=by simp;omega
   go_wp2_with (first|(go_at_call 159;refine(Calls.mono (ins_any g n cap x y e wr HP.out.row hn oM oM) ?_);rintro e9 w9 ⟨rfl,f,k1,k2,k3,k4⟩;have K:Hid (PdqQ g n a b d w (.returned (.tuple #[])) w9):=HP.out.fin hx hy k1 k2 k3 k4;clear k1 k2 k3 k4))
   exact XA1
  have d12:decide ((l:Int)<=12)=false:=by simp;omega
  by_cases hl0:lm=0
  ·have d0:((lm:Int)==0)=true:=by simp;omega
   go_wp2_with (first|(go_at_call 160;refine(Calls.mono (heap_any g n cap x y e wr HP.out.row hn oM oM) ?_);rintro e9 w9 ⟨rfl,f,k1,k2,k3,k4⟩;have K:Hid (PdqQ g n a b d w (.returned (.tuple #[])) w9):=HP.out.fin hx hy k1 k2 k3 k4;clear k1 k2 k3 k4))
   exact XA1
  have d0:((lm:Int)==0)=false:=by simp;omega
  go_upto_if 35 with fail
  go_cut [3]from 36 to 41 (fun s wx=>∃(lm2:Nat) (f:Nat->Int),s=.int .i64 lm2/\lm2<=64/\PS g n a b d w x y f wx)
  case first=>
   cases wb with
   |true=>
    go_wp2
    go_meet
    exact⟨lm,e,rfl,hlm,HP.out⟩
   |false=>
    go_wp2_with (first|(go_at_call 161;refine(Calls.mono (brk_any g n cap x y e wr HP.out.row hn oM oM) ?_);rintro e9 w9 ⟨rfl,f,k1,k2,k4⟩;have K:Hid (PS g n a b d w x y f w9):=HP.out.go hx hy k1 k2 k4;clear k1 k2 k4))
    go_meet
    exact⟨lm-1,f,by go_num,by omega,K.out⟩
  case rest=>
  obtain⟨lm2,f,rfl,hlm2,hps⟩:=hcut
  obtain⟨Z,hZ⟩:∃Z,Z=wc:=⟨_,rfl⟩
  subst hZ
  have HZ:Hid (PS g n a b d w x y f Z):=hps
  clear hps HP
  go_upto_if 50 with(first|(go_at_call 162;refine(Calls.mono (chp_any g n cap x y f Z HZ.out.row hn oM oM) ?_);rintro e9 w9 ⟨pv,hint,rfl,hp1,hp2,k1,k2⟩;obtain⟨bh,hbh⟩:∃bh,(hint==2)=bh:=⟨_,rfl⟩;have K:Hid (PS g n a b d w x y f w9):=HZ.out.go hx hy k1 (Rr.refl _ _ _ _) (k2.mono (fun i hi=>by cases hi));clear k1 k2))
  go_cut [11,12]from 51 to 60 (fun s t wx=>∃(p2:Nat) (h2:Int) (f2:Nat->Int),s=.int .i64 p2/\t=.int .i64 h2/\x<=p2/\p2<y/\PS g n a b d w x y f2 wx)
  case first=>
   cases bh with
   |true=>
    obtain⟨px,hpx⟩:∃px:Nat,(pv:Int)-(x:Int)=(px:Int):=⟨pv-x,by omega⟩
    go_wp2_with (first|(go_at_call 163;refine(Calls.mono (rev_any g n cap x y f w9 K.out.row hn oM oM) ?_);rintro e8 w8 ⟨rfl,f2,k1,k2,k4⟩;have K2:Hid (PS g n a b d w x y f2 w8):=K.out.go hx hy k1 k2 k4;clear k1 k2 k4))
    go_meet
    exact⟨y-1-px,1,f2,by go_num,rfl,by omega,by omega,K2.out⟩
   |false=>
    go_wp2
    go_meet
    exact⟨pv,hint,f,rfl,rfl,hp1,hp2,K.out⟩
  case rest=>
  obtain⟨p2,h2,f2,rfl,rfl,hq1,hq2,hps⟩:=hcut
  obtain⟨V,hV⟩:∃V,V=wc:=⟨_,rfl⟩
  subst hV
  have HV:Hid (PS g n a b d w x y f2 V):=hps
  clear hps HZ K hp1 hp2
  obtain⟨b1,hb1⟩:∃b1,(h2==1)=b1:=⟨_,rfl⟩
  go_upto_region 15 with fail
  go_cut [68]from 61 to 68 (fun s wx=>∃c:Bool,s=.bool c/\wx=V)
  case first=>
   cases wb<;>cases wp<;>cases b1<;>(go_wp2;go_meet;exact⟨_,rfl,rfl⟩)
  case rest=>
  obtain⟨c,rfl,hwc⟩:=hcut
  replace hwc:=hwc.symm
  subst hwc
  clear hb1 hbh
  go_upto_if 68 with fail
  go_cut []from 69 to 72 (fun wx=>∃(f3:Nat->Int),PS g n a b d w x y f3 wx)
  case first=>
   cases c with
   |false=>
    go_wp2
    go_meet
    exact⟨f2,HV.out⟩
   |true=>
    go_wp2_with (first|(go_at_call 164;refine(Calls.mono (pin_any g n cap x y f2 V HV.out.row hn oM oM (HV.out.qd.lo hx hy (HL.out.rr HV.out.rr))) ?_);rintro e8 w8 ⟨rb,f3,rfl,k1,k2,k3,k4⟩;have K2:Hid (PS g n a b d w x y f3 w8):=HV.out.go hx hy k1 k2 k4;have K3:Hid (rb=true->Sd x y f3):=k3;clear k1 k2 k3 k4))
    ·refine bodyPost_ret (results_none rfl _ _ _) rfl ?_
     exact⟨rfl,f3,K2.out.row,K2.out.rr,K2.out.qd.done (K3.out aS),K2.out.tch⟩
    ·go_meet
     exact⟨f3,K2.out⟩
  case rest=>
  obtain⟨f3,hps⟩:=hcut
  obtain⟨U,hU⟩:∃U,U=wc:=⟨_,rfl⟩
  subst hU
  have HU:Hid (PS g n a b d w x y f3 U):=hps
  clear hps HV
  go_upto_region 17 with fail
  go_cut [87]from 73 to 87 (fun s wx=>s=.bool false/\PS g n a b d w x y f3 wx)
  case first=>
   by_cases hx0:0<x
   ·have dx:decide ((0:Int)<(x:Int))=true:=by simp;omega
    obtain⟨xm,hxm⟩:∃xm:Nat,(x:Int)-1=(xm:Int):=⟨x-1,by omega⟩
    have HR9:Hid (RowU g n f3 U):=HU.out.row
    obtain⟨u,hu⟩:∃u,u=f3 xm:=⟨_,rfl⟩
    obtain⟨v,hv⟩:∃v,v=f3 p2:=⟨_,rfl⟩
    have cx:U.cell? ⟨g,xm,none⟩=some (.int .u32 u):=by rw[hu];exact HR9.out.at' _ oM
    have cy:U.cell? ⟨g,p2,none⟩=some (.int .u32 v):=by rw[hv];exact HR9.out.at' _ oM
    have huv:u<v:=by
     have q1:=HU.out.qd.lo hx hy (HL.out.rr HU.out.rr) hx0 p2 hq1 hq2
     rw[show x-1=xm by omega,<-hu,<-hv]at q1
     rcases Int.lt_or_eq_of_le q1 with q|q
     ·exact q
     ·exfalso
      have:=HU.out.rr.inj HI.out xm p2 oM oM (by rw[<-hu,<-hv];exact q)
      omega
    clear hu hv
    exact XA0
   ·have dx:decide ((0:Int)<(x:Int))=false:=by simp;omega
    exact XA0
  case rest=>
  obtain⟨rfl,hps⟩:=hcut
  obtain⟨R,hR⟩:∃R,R=wc:=⟨_,rfl⟩
  subst hR
  have HR9:Hid (PS g n a b d w x y f3 R):=hps
  clear hps HU
  go_upto_if 113 with(first|(go_at_call 167;refine(Calls.mono (part_any g n cap x y p2 f3 R HR9.out.row hn oM oM hq1 hq2) ?_);rintro e9 w9 ⟨mi,al,f4,rfl,hm1,hm2,k1,k2,k3,k4⟩;have K:Hid (PS g n a b d w x y f4 w9):=HR9.out.go hx hy k1 k2 k4;have KP:Hid (Pd x y mi f4):=k3;clear k1 k2 k3 k4;obtain⟨ll,hll⟩:∃ll:Nat,(mi:Int)-(x:Int)=(ll:Int):=⟨mi-x,by omega⟩;obtain⟨rl,hrl⟩:∃rl:Nat,(y:Int)-(mi:Int)=(rl:Int):=⟨y-mi,by omega⟩))
  by_cases hlr:ll<rl
  ·have dl:decide ((ll:Int)<(rl:Int))=true:=by simp;omega
   go_wp2_with (first|(go_at_call 142;refine(Calls.mono (IH.out (mi-x) oM x mi lm2 f4 w9 K.out.row oM oM (Nat.le_refl _) hlm2 (K.out.rr.inj HI.out) (fun h0 k h1 h2=>K.out.qd.lo hx hy (HL.out.rr K.out.rr) h0 k h1 oM)) ?_);rintro e8 w8 ⟨rfl,f5,k1,k2,k3,k4⟩;have K2:Hid (PS g n a b d w (mi+1) y f5 w8):=⟨k1,K.out.rr.trans (k2.wide hx oM),K.out.qd.left hx hy hm1 hm2 KP.out k2 k3,K.out.tch.trans k4⟩;clear k1 k2 k3 k4))
   go_roundw
   case rel=>exact⟨mi+1,y,lm2,_,al,f5,by go_num,rfl,rfl,rfl,rfl,by omega,by omega,hy,hlm2,K2.out⟩
   case measure=>simp[intOf];omega
  ·have dl:decide ((ll:Int)<(rl:Int))=false:=by simp;omega
   go_wp2_with (first|(go_at_call 142;refine(Calls.mono (IH.out (y-(mi+1)) oM (mi+1) y lm2 f4 w9 K.out.row oM oM (Nat.le_refl _) hlm2 (K.out.rr.inj HI.out) (fun h0 k h1 h2=>KP.out.hi k oM h2)) ?_);rintro e8 w8 ⟨rfl,f5,k1,k2,k3,k4⟩;have K2:Hid (PS g n a b d w x mi f5 w8):=⟨k1,K.out.rr.trans (k2.wide oM hy),K.out.qd.right hx hy hm1 hm2 KP.out k2 k3,K.out.tch.trans k4⟩;clear k1 k2 k3 k4))
   go_roundw
   case rel=>exact⟨x,mi,lm2,_,al,f5,rfl,rfl,rfl,rfl,rfl,hx,hm1,by omega,hlm2,K2.out⟩
   case measure=>simp[intOf];omega
theorem bl_le(x:Nat)(hx:x<=5000):Lib.bitLen x<=64:=by
 rcases Nat.eq_zero_or_pos x with h|h
 ·subst h;decide
 ·obtain⟨b1,b2⟩:=bl_bd x h hx
  rcases Nat.lt_or_ge 64 (Lib.bitLen x)with q|q
  ·have:=Nat.pow_le_pow_right (n:=2) dC q
   omega
  ·exact q
theorem sort_any(g n cap:Nat)(d:Nat->Int)(w:World)(h:RowU g n d w)(hn:n<=5000)(hi:Inj n d):Calls Tryz.prog 111 #[.slice (some ⟨g,0,none⟩) n cap] w (PdqQ g n 0 n d w):=by
 have HP:Hid (Calls Tryz.prog 142 #[.slice (some ⟨g,0,none⟩) n cap,.int .i64 (0:Nat),.int .i64 n,.int .i64 (Lib.bitLen n:Nat)] w (PdqQ g n 0 n d w)):=pdq_any g n cap hn n 0 n (Lib.bitLen n) d w h (Nat.zero_le _) (Nat.le_refl _) oM (bl_le n hn) hi (fun h0=>absurd h0 dC)
 clear h
 go_enter Tryz.func111,Tryz.ntmps111
 go_wp2_with (first|(go_at_call 143;refine(Calls.mono (len_any n hn _) ?_);rintro e9 w9 ⟨rfl,hw9⟩;subst w9)|(go_at_call 142;refine(Calls.mono HP.out ?_);rintro e8 w8 ⟨rfl,K⟩))
 go_end0
 exact⟨rfl,K⟩
theorem ins_nil(w:World):Calls Tryz.prog 159 #[.slice none 0 0,.int .i64 0,.int .i64 0] w fun e w'=>e=.returned (.tuple #[])/\w'=w:=by
 go_enter Tryz.func159,Tryz.ntmps159
 go_wp2
 go_loopw [6] (fun i wr=>i=.int .i64 1/\wr=w) (fun _ _=>0)
 case atStart=>exact⟨rfl,rfl⟩
 case round=>
  obtain⟨rfl,rfl⟩:=hrel
  go_wp2
  go_end0
  exact⟨rfl,rfl⟩
theorem pdq_nil(l:Int)(w:World):Calls Tryz.prog 142 #[.slice none 0 0,.int .i64 0,.int .i64 0,.int .i64 l] w fun e w'=>e=.returned (.tuple #[])/\w'=w:=by
 go_enter Tryz.func142,Tryz.ntmps142
 go_wp2
 go_loopw [1,2] (fun i j wr=>i=.int .i64 0/\j=.int .i64 0/\wr=w) (fun _ _ _=>0)
 case atStart=>exact⟨rfl,rfl,rfl⟩
 case round=>
  obtain⟨rfl,rfl,rfl⟩:=hrel
  go_wp2_with (first|(go_at_call 159;refine(Calls.mono (ins_nil _) ?_);rintro e9 w9 ⟨rfl,hw9⟩;subst w9))
  refine bodyPost_ret (results_none rfl _ _ _) rfl ?_
  exact⟨rfl,rfl⟩
theorem sort_nil(w:World):Calls Tryz.prog 111 #[.slice none 0 0] w fun e w'=>e=.returned (.tuple #[])/\w'=w:=by
 go_enter Tryz.func111,Tryz.ntmps111
 go_wp2_with (first|(go_at_call 143;refine(Calls.mono (len_any 0 oM _) ?_);rintro e9 w9 ⟨rfl,hw9⟩;subst w9)|(go_at_call 142;refine(Calls.mono (pdq_nil _ _) ?_);rintro e8 w8 ⟨rfl,hw8⟩;subst w8))
 go_end0
 exact⟨rfl,rfl⟩
end so
end Go.Proofs.YtjikimpejlmdiaaGreatDoor

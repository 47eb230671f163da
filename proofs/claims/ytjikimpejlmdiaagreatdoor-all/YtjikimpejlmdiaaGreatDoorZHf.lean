import Derived.Test.YtjikimpejlmdiaaGreatDoorZHe
import Derived.Test.YtjikimpejlmdiaaGreatDoorZGq
import Derived.Test.YtjikimpejlmdiaaGreatDoorZGa
import Derived.Deep.OwnRows
import Derived.BigRegion
import Derived.Deep.MidRow
set_option maxHeartbeats 4000000
set_option linter.unusedVariables false
set_option linter.unusedSimpArgs false
set_option maxRecDepth 10000
namespace Go.Proofs.YtjikimpejlmdiaaGreatDoor
theorem Xu0{p:Prop}(h:p:=by
 have hr1:RefAt w.heap.size (w.heap.size+1+1) (w.heap.size+1) {(start0 (p:Int) im (k:Int) ans fu (n:Int) ar true)with mem:=put (fun _=>0) k im } (.slice none 0 0) (.slice oa na ca) (.slice none 0 0) (.slice none 0 0) w1:=by rw[hw1];exact hr2.puts k im (by rw[hsz];omega)
 have ht1:Touch [w.heap.size+1] W w1:=by rw[hw1];exact touch_setCells sP _ _ _ _ (Touch.refl _ _).drew
 have e3:w1.cell? ⟨w.heap.size,3,none⟩=some (.int .u32 en):=(ht1.cell (p:=⟨w.heap.size,3,none⟩) (World.block_lt_of_cell? _ _ hs3) sP).trans hs3
 have e6:w1.cell? ⟨w.heap.size,6,none⟩=some (.int .i64 (n:Int)):=(ht1.cell (p:=⟨w.heap.size,6,none⟩) (World.block_lt_of_cell? _ _ hs6) sP).trans hs6
 obtain⟨u44,e44⟩:=hr1.there 44 dC
 have f44:=hr1.free 44
 obtain⟨u1,e1⟩:=hr1.there 1 dC
 obtain⟨u34,e34⟩:=hr1.there 34 dC
 have e40:w1.cell? ⟨w.heap.size+1+1,40,none⟩=some (.int .u32 ((k:Int)+im.size)):=hr1.cells 40 dC dC
 have f1:=hr1.free 1
 have f34:=hr1.free 34
 have HR1:Hid (RefAt w.heap.size (w.heap.size+1+1) (w.heap.size+1) {(start0 (p:Int) im (k:Int) ans fu (n:Int) ar true)with mem:=put (fun _=>0) k im } (.slice none 0 0) (.slice oa na ca) (.slice none 0 0) (.slice none 0 0) w1):=hr1
 have HT1:Hid (Touch [w.heap.size+1] w w1):=(hbw.mono sP).trans ht1
 clear hr hr1 hr2 hw1 ht1 hbw hsz hkz
 have lbx:w.heap.size+1+1<w1.heap.size:=World.block_lt_of_cell? _ _ e1
 go_wp2_with fail
 go_region
 go_wp2_with fail
 go_ret2
 have g0:=@at_slotv w.heap.size (w.heap.size+1+1) (w.heap.size+1) _ (.slice none 0 0) (.slice oa na ca) (.slice none 0 0) (.slice none 0 0) _ (@at_brk w.heap.size (w.heap.size+1+1) (w.heap.size+1) _ (.slice none 0 0) (.slice oa na ca) (.slice none 0 0) (.slice none 0 0) _ (at_pc HR1.out en) ((k:Int)+im.size)) (fun _=>(0,0)) (.slice (some ⟨w1.heap.size,0,none⟩) n n)
 have hzz:0<(start (p:Int) im (k:Int) en ans fu (n:Int) ar true).size:=by show 0<((p:Int)*64).toNat;omega
 have g1:=RefAt.other (S:=[]) g0 ((Touch.refl _ _).alloc (.cells (madeCells #[.int .u32 0,.int .i64 0] (n*2)) 77)) sP sP hzz
 have g2:Touch [w.heap.size+1+1,w.heap.size+1] w _:=((((HT1.out.mono sP).setCell (a:=⟨w.heap.size+1+1,1,none⟩) sP (.int .u32 en)).setCell (a:=⟨w.heap.size+1+1,34,none⟩) sP (.int .u32 ((k:Int)+im.size))).setCell (a:=⟨w.heap.size+1+1,44,none⟩) sP (.slice (some ⟨w1.heap.size,0,none⟩) n n)).alloc (.cells (madeCells #[.int .u32 0,.int .i64 0] (n*2)) 77)
 have g3:Below w.heap.size w _:=g2.below (Nat.le_refl _) (by intro i hi;simp at hi;omega)
 have hns:(start (p:Int) im (k:Int) en ans fu (n:Int) ar true).nslots=n:=by show((n:Int)).toNat=n;simp
 refine⟨rfl,_,⟨g1,Or.inr ⟨by rw[hns];omega,by rw[hns];omega,fun i=>⟨Int.le_refl 0,by show(0:Int)<=4294967295;decide⟩,w1.heap.size,by rw[hns],by omega,by omega, ?_⟩,World.ownsRow_nil _ _ _ _,HA.out.below g3,World.ownsRow_nil _ _ _ _,by simp[sblk],by simp[sblk],by simp[sblk];omega⟩,g3⟩
 rw[hns]
 refine⟨fun i hi=> ?_,fun i hi=> ?_,fun j=> ?_⟩
 ·rw[World.cell?_alloc_at _ _ _ _ (by simp[World.setCell])];exact(made2 _ _ n i hi).1
 ·rw[World.cell?_alloc_at _ _ _ _ (by simp[World.setCell])];exact(made2 _ _ n i hi).2
 ·exact World.frozen?_alloc_at _ _ _ _ (by simp[World.setCell])):p:=h
theorem Xu1{p:Prop}(h:p:=by
 go_enter Tryz.func33,Tryz.ntmps33
 go_wp2_with fail
 go_ret2
 refine⟨rfl, ?_⟩
 (repeat' (first|with_reducible exact Below.refl _ _|with_reducible apply below_drewN|with_reducible apply Below.drew|with_reducible apply Below.alloc|with_reducible apply Below.setCell))<;>(first|(simp;done)|(simp;omega))):p:=h
theorem Xu2{p:Prop}(h:p:=by rw[hsz];omega):p:=h
namespace ref
open ChangeShapes WideShapes ChangeAt RowKit nums dnums mach
attribute [local go_sem ↓] Go.wp_at_zero Go.wp_at_succ
theorem new_sl1(pg:Int)(im:ByteArray)(ba en:Int)(vA:Value)(fu sl ar:Int)(ba0:0<=ba)(ba1:ba<=4294967295)(him:im.size<=1048576)(w:World)(p0:1<=pg)(p1:pg<=8)(i0:im.size<=pg*64)(i1:ba<=pg*64-im.size)(f0:0<=fu)(f1:fu<=2000)(h1:sl<1):
  Calls Tryz.prog 33 #[.agg #[.int .i64 pg,.string im,.int .u32 ba,.int .u32 en,vA,.int .i64 fu,.int .i64 sl,.int .i64 ar],.bool true] w fun e w'=>e=.returned (.tuple #[.pointer none,.int .i64 4])/\Below w.heap.size w w':=by
 have d1:decide (pg<1)=false:=by simp;omega
 have d2:decide (8<pg)=false:=by simp;omega
 have d3:decide (pg*64<(im.size:Int))=false:=by simp;omega
 have d4:decide (pg*64-(im.size:Int)<ba)=false:=by simp;omega
 have d5:decide (fu<0)=false:=by simp;omega
 have d6:decide (2000<fu)=false:=by simp;omega
 have d7:decide (sl<1)=true:=by simpa using h1
 exact Xu1
theorem new_sl2(pg:Int)(im:ByteArray)(ba en:Int)(vA:Value)(fu sl ar:Int)(ba0:0<=ba)(ba1:ba<=4294967295)(him:im.size<=1048576)(w:World)(p0:1<=pg)(p1:pg<=8)(i0:im.size<=pg*64)(i1:ba<=pg*64-im.size)(f0:0<=fu)(f1:fu<=2000)(h1:64<sl):
  Calls Tryz.prog 33 #[.agg #[.int .i64 pg,.string im,.int .u32 ba,.int .u32 en,vA,.int .i64 fu,.int .i64 sl,.int .i64 ar],.bool true] w fun e w'=>e=.returned (.tuple #[.pointer none,.int .i64 4])/\Below w.heap.size w w':=by
 have d1:decide (pg<1)=false:=by simp;omega
 have d2:decide (8<pg)=false:=by simp;omega
 have d3:decide (pg*64<(im.size:Int))=false:=by simp;omega
 have d4:decide (pg*64-(im.size:Int)<ba)=false:=by simp;omega
 have d5:decide (fu<0)=false:=by simp;omega
 have d6:decide (2000<fu)=false:=by simp;omega
 have d7:decide (sl<1)=false:=by simp;omega
 have d8:decide (64<sl)=true:=by simpa using h1
 exact Xu1
theorem new_sl3(pg:Int)(im:ByteArray)(ba en:Int)(vA:Value)(fu sl ar:Int)(ba0:0<=ba)(ba1:ba<=4294967295)(him:im.size<=1048576)(w:World)(p0:1<=pg)(p1:pg<=8)(i0:im.size<=pg*64)(i1:ba<=pg*64-im.size)(f0:0<=fu)(f1:fu<=2000)(s0:1<=sl)(s1:sl<=64)(h1:ar<8):
  Calls Tryz.prog 33 #[.agg #[.int .i64 pg,.string im,.int .u32 ba,.int .u32 en,vA,.int .i64 fu,.int .i64 sl,.int .i64 ar],.bool true] w fun e w'=>e=.returned (.tuple #[.pointer none,.int .i64 4])/\Below w.heap.size w w':=by
 have d1:decide (pg<1)=false:=by simp;omega
 have d2:decide (8<pg)=false:=by simp;omega
 have d3:decide (pg*64<(im.size:Int))=false:=by simp;omega
 have d4:decide (pg*64-(im.size:Int)<ba)=false:=by simp;omega
 have d5:decide (fu<0)=false:=by simp;omega
 have d6:decide (2000<fu)=false:=by simp;omega
 have d7:decide (sl<1)=false:=by simp;omega
 have d8:decide (64<sl)=false:=by simp;omega
 have d9:decide (ar<8)=true:=by simpa using h1
 exact Xu1
theorem new_sl4(pg:Int)(im:ByteArray)(ba en:Int)(vA:Value)(fu sl ar:Int)(ba0:0<=ba)(ba1:ba<=4294967295)(him:im.size<=1048576)(w:World)(p0:1<=pg)(p1:pg<=8)(i0:im.size<=pg*64)(i1:ba<=pg*64-im.size)(f0:0<=fu)(f1:fu<=2000)(s0:1<=sl)(s1:sl<=64)(h1:256<ar):
  Calls Tryz.prog 33 #[.agg #[.int .i64 pg,.string im,.int .u32 ba,.int .u32 en,vA,.int .i64 fu,.int .i64 sl,.int .i64 ar],.bool true] w fun e w'=>e=.returned (.tuple #[.pointer none,.int .i64 4])/\Below w.heap.size w w':=by
 have d1:decide (pg<1)=false:=by simp;omega
 have d2:decide (8<pg)=false:=by simp;omega
 have d3:decide (pg*64<(im.size:Int))=false:=by simp;omega
 have d4:decide (pg*64-(im.size:Int)<ba)=false:=by simp;omega
 have d5:decide (fu<0)=false:=by simp;omega
 have d6:decide (2000<fu)=false:=by simp;omega
 have d7:decide (sl<1)=false:=by simp;omega
 have d8:decide (64<sl)=false:=by simp;omega
 have d9:decide (ar<8)=false:=by simp;omega
 have d10:decide (256<ar)=true:=by simpa using h1
 exact Xu1
theorem new_te(pg:Int)(im:ByteArray)(ba en:Int)(vA:Value)(fu sl ar:Int)(ba0:0<=ba)(ba1:ba<=4294967295)(him:im.size<=1048576)(w:World)(hw:¬wrong pg im ba fu sl ar true=0):
  Calls Tryz.prog 33 #[.agg #[.int .i64 pg,.string im,.int .u32 ba,.int .u32 en,vA,.int .i64 fu,.int .i64 sl,.int .i64 ar],.bool true] w fun e w'=>e=.returned (.tuple #[.pointer none,.int .i64 (wrong pg im ba fu sl ar true)])/\Below w.heap.size w w':=by
 unfold wrong at hw ⊢
 by_cases c1:pg<1\/8<pg
 ·rw[if_pos c1]
  rcases c1 with c|c
  ·exact new_pg1t pg im ba en vA fu sl ar ba0 ba1 him w c
  ·exact new_pg2t pg im ba en vA fu sl ar ba0 ba1 him w c
 rw[if_neg c1]at hw ⊢
 by_cases c2:pg*64<im.size\/pg*64-im.size<ba
 ·rw[if_pos c2]
  by_cases c:pg*64<im.size
  ·exact new_im1t pg im ba en vA fu sl ar ba0 ba1 him w oM oM c
  ·exact new_im2t pg im ba en vA fu sl ar ba0 ba1 him w oM oM oM oM
 rw[if_neg c2]at hw ⊢
 by_cases c3:fu<0\/2000<fu
 ·rw[if_pos c3]
  by_cases c:fu<0
  ·exact new_fu1t pg im ba en vA fu sl ar ba0 ba1 him w oM oM oM oM c
  ·exact new_fu2t pg im ba en vA fu sl ar ba0 ba1 him w oM oM oM oM oM
 rw[if_neg c3]at hw ⊢
 by_cases c4:sl<1\/64<sl\/ar<8\/256<ar
 rotate_left
 ·exact absurd (if_neg (fun h=>c4 h.2)) hw
 rw[if_pos ⟨rfl,c4⟩]
 by_cases s1:sl<1
 ·exact new_sl1 pg im ba en vA fu sl ar ba0 ba1 him w oM oM oM oM oM oM s1
 by_cases s2:64<sl
 ·exact new_sl2 pg im ba en vA fu sl ar ba0 ba1 him w oM oM oM oM oM oM s2
 by_cases s3:ar<8
 ·exact new_sl3 pg im ba en vA fu sl ar ba0 ba1 him w oM oM oM oM oM oM oM oM s3
 ·exact new_sl4 pg im ba en vA fu sl ar ba0 ba1 him w oM oM oM oM oM oM oM oM oM
theorem wrong_0(pg:Int)(im:ByteArray)(ba fu sl ar:Int)(h:wrong pg im ba fu sl ar true=0):wrong pg im ba fu sl ar false=0/\1<=sl/\sl<=64/\8<=ar/\ar<=256:=by
 unfold wrong at h ⊢
 by_cases c1:pg<1\/8<pg
 ·rw[if_pos c1]at h;omega
 rw[if_neg c1]at h ⊢
 by_cases c2:pg*64<im.size\/pg*64-im.size<ba
 ·rw[if_pos c2]at h;omega
 rw[if_neg c2]at h ⊢
 by_cases c3:fu<0\/2000<fu
 ·rw[if_pos c3]at h;omega
 rw[if_neg c3]at h ⊢
 by_cases c4:sl<1\/64<sl\/ar<8\/256<ar
 ·rw[if_pos ⟨rfl,c4⟩]at h;omega
 ·exact⟨if_neg (fun h=>by cases h.1),by omega,by omega,by omega,by omega⟩
theorem bstart(pg:Int)(im:ByteArray)(ba en:Int)(ans:List ByteArray)(fu sl ar:Int)(ba0:0<=ba)(en0:0<=en)(en1:en<=4294967295)(h:wrong pg im ba fu sl ar true=0):BRun (start pg im ba en ans fu sl ar true) (start pg im ba en ans fu sl ar true):=by
 have hg:=good_start pg im ba en ans fu sl ar true ba0 en0 en1 h
 obtain⟨_,s0,s1,r0,r1⟩:=wrong_0 pg im ba fu sl ar h
 refine⟨hg.1,⟨?_,fun i hi=>Or.inl rfl⟩, ?_,rfl, ?_,rfl, ?_, ?_,Int.le_refl _, ?_, ?_, ?_,Int.le_refl _, ?_,⟨0,rfl⟩,rfl,rfl,⟨rfl,fun i hi=>absurd rfl hi⟩⟩
 ·show(pg*64).toNat%64=0;have:=hg.2;omega
 ·show 0<sl.toNat;omega
 ·show sl.toNat<=64;omega
 ·show 8<=ar/\ar<=256;omega
 ·show(0:Int)<=0/\(0:Int)<=ar;omega
 ·show(0:Int)<=0+0;omega
 ·exact⟨List.Pairwise.nil,Nat.zero_le _,fun x hx=>by cases hx⟩
 ·show(0:Int)<=8;omega
 ·show(0:Int)<=8;omega
theorem new_reft(p na ca:Nat)(oa:Option Addr)(im:ByteArray)(ba en fu sl ar:Int)(ans:List ByteArray)(w:World):
  RefAt w.heap.size (w.heap.size+1+1) (w.heap.size+1) (start0 (p:Int) im ba ans fu sl ar true) (.slice none 0 0) (.slice oa na ca) (.slice none 0 0) (.slice none 0 0) ((((w.alloc (.cells #[.int .i64 (p:Int),.string im,.int .u32 ba,.int .u32 en,(.slice oa na ca),.int .i64 fu,.int .i64 sl,.int .i64 ar] 25)).alloc (.cells (madeCells #[.int .u8 0] (p*64)) 5)).alloc (.cells #[.int .i64 0,.int .u32 0,.int .u32 0,.int .u32 0,.int .u32 0,.int .u32 0,.int .u32 0,.int .u32 0,.int .u32 0,.int .u32 0,.int .u32 0,.int .u32 0,.int .u32 0,.int .u32 0,.int .u32 0,.int .u32 0,.int .u32 0,.int .u32 0,.int .u32 0,.int .u32 0,.int .u32 0,.int .u32 0,.int .u32 0,.int .u32 0,.int .u32 0,.int .u32 0,.int .u32 0,.int .u32 0,.int .u32 0,.int .u32 0,.int .u32 0,.int .u32 0,.int .u32 0,.int .u32 0,.int .u32 0,.string ⟨#[]⟩,.slice none 0 0,.int .i64 0,.int .i64 0,.slice (some ⟨w.heap.size+1,0,none⟩) (p*64) (p*64),.int .u32 (ba+im.size),.slice oa na ca,.int .i64 fu,.bool false,.slice none 0 0,.int .i64 ar,.int .i64 0,.int .u32 0,.int .i64 0,.int .i64 0,.slice none 0 0] 79)).drew):=by
 have h:=new_ref p na ca oa im ba en fu sl ar ans w
 exact⟨h.hb,h.hmb,h.ne,h.cells,h.data,h.free,h.bytes,h.freem⟩
theorem new_tky(pg:Int)(im:ByteArray)(ba en:Int)(vA:Value)(fu sl ar:Int)(ba0:0<=ba)(ba1:ba<=4294967295)(him:im.size<=1048576)(w:World)(oa:Option Addr)(na ca:Nat)(hvA:vA=.slice oa na ca)(p:Nat)(hp:pg=p)(p0:1<=p)(p1:p<=8)(k:Nat)(hk:ba=k)(hks:¬p*64=k)(i0:im.size<=pg*64)(i1:ba<=pg*64-im.size)(f0:0<=fu)(f1:fu<=2000)(s0:1<=sl)(s1:sl<=64)(r0:8<=ar)(r1:ar<=256)(n:Nat)(hsn:sl=n)(ans:List ByteArray)(ha:AnsAt w.heap.size ans vA w):
  Calls Tryz.prog 33 #[.agg #[.int .i64 pg,.string im,.int .u32 ba,.int .u32 en,vA,.int .i64 fu,.int .i64 sl,.int .i64 ar],.bool true] w fun e w'=>e=.returned (.tuple #[.pointer (some ⟨w.heap.size+1+1,0,none⟩),.int .i64 0])/\∃vS,Whole w.heap.size (w.heap.size+1+1) (w.heap.size+1) (start pg im ba en ans fu sl ar true) (.slice none 0 0) vA vS (.slice none 0 0) w'/\Below w.heap.size w w':=by
 subst hsn
 subst hp
 subst hvA
 subst hk
 have d1:decide ((p:Int)<1)=false:=by simp;omega
 have d2:decide (8<(p:Int))=false:=by simp;omega
 have d3:decide ((p:Int)*64<(im.size:Int))=false:=by simp;omega
 have d4:decide ((p:Int)*64-(im.size:Int)<(k:Int))=false:=by simp;omega
 have d5:decide (fu<0)=false:=by simp;omega
 have d6:decide (2000<fu)=false:=by simp;omega
 have d7:decide ((n:Int)<1)=false:=by simp;omega
 have d8:decide (64<(n:Int))=false:=by simp;omega
 have d9:decide (ar<8)=false:=by simp;omega
 have d10:decide (256<ar)=false:=by simp;omega
 have hmk:=make_mem p p1
 have hmk2:=make_slots n oM
 have HA:Hid (AnsAt w.heap.size ans (.slice oa na ca) w):=ha
 have HKS:Hid (¬p*64=k):=hks
 clear ha hks
 go_enter Tryz.func33,Tryz.ntmps33
 go_wp2_with fail
 go_region
 have hks:=HKS.out
 generalize hW:(((w.alloc (.cells #[.int .i64 (p:Int),.string im,.int .u32 (k:Int),.int .u32 en,(.slice oa na ca),.int .i64 fu,.int .i64 (n:Int),.int .i64 ar] 25)).alloc (.cells (madeCells #[.int .u8 0] (p*64)) 5)).alloc (.cells #[.int .i64 0,.int .u32 0,.int .u32 0,.int .u32 0,.int .u32 0,.int .u32 0,.int .u32 0,.int .u32 0,.int .u32 0,.int .u32 0,.int .u32 0,.int .u32 0,.int .u32 0,.int .u32 0,.int .u32 0,.int .u32 0,.int .u32 0,.int .u32 0,.int .u32 0,.int .u32 0,.int .u32 0,.int .u32 0,.int .u32 0,.int .u32 0,.int .u32 0,.int .u32 0,.int .u32 0,.int .u32 0,.int .u32 0,.int .u32 0,.int .u32 0,.int .u32 0,.int .u32 0,.int .u32 0,.int .u32 0,.string ⟨#[]⟩,.slice none 0 0,.int .i64 0,.int .i64 0,.slice (some ⟨w.heap.size+1,0,none⟩) (p*64) (p*64),.int .u32 ((k:Int)+im.size),.slice oa na ca,.int .i64 fu,.bool false,.slice none 0 0,.int .i64 ar,.int .i64 0,.int .u32 0,.int .i64 0,.int .i64 0,.slice none 0 0] 79)).drew=W
 have hr:=new_reft p na ca oa im k en fu n ar ans w
 have hs1:W.cell? ⟨w.heap.size,1,none⟩=some (.string im):=by rw[<-hW];exact new_set p na ca oa im k en fu n ar w 1
 have hs2:W.cell? ⟨w.heap.size,2,none⟩=some (.int .u32 (k:Int)):=by rw[<-hW];exact new_set p na ca oa im k en fu n ar w 2
 have hs6:W.cell? ⟨w.heap.size,6,none⟩=some (.int .i64 (n:Int)):=by rw[<-hW];exact new_set p na ca oa im k en fu n ar w 6
 have hs3:W.cell? ⟨w.heap.size,3,none⟩=some (.int .u32 en):=by rw[<-hW];exact new_set p na ca oa im k en fu n ar w 3
 have hbw:Touch [] w W:=by rw[<-hW];exact new_bel p na ca oa im k en fu n ar w
 rw[hW]at hr
 clear hW hmk
 have hsz:(start0 (p:Int) im (k:Int) ans fu (n:Int) ar true).size=p*64:=by simp[start0];omega
 have c39:W.cell? ⟨w.heap.size+1+1,39,none⟩=some (.slice (some ⟨w.heap.size+1,0,none⟩) (p*64) (p*64)):=by have:=hr.data;rw[hsz]at this;exact this
 obtain⟨w1,hw1⟩:∃w1,w1=W.drew.setCells (w.heap.size+1) k (strCells im):=⟨_,rfl⟩
 have hr2:RefAt w.heap.size (w.heap.size+1+1) (w.heap.size+1) (start0 (p:Int) im (k:Int) ans fu (n:Int) ar true) (.slice none 0 0) (.slice oa na ca) (.slice none 0 0) (.slice none 0 0) W.drew:=⟨hr.hb,hr.hmb,hr.ne,hr.cells,hr.data,hr.free,hr.bytes,hr.freem⟩
 have hkz:k+im.size<=p*64:=by omega
 have hrun:∀ty,(Builtin.copy_ #[74,9] ty #[.slice (some ⟨w.heap.size+1,k,none⟩) (p*64-k) (p*64-k),.string im]).run Tryz.prog W.drew=.ok (goInt im.size) w1:=fun ty=>by
  rw[hw1];exact copy_run hr2 Xu2 k k (p*64-k) (p*64-k) im Xu2 (fun hp=>rfl) oM ty
 exact Xu0
theorem new_tkn(pg:Int)(im:ByteArray)(ba en:Int)(vA:Value)(fu sl ar:Int)(ba0:0<=ba)(ba1:ba<=4294967295)(him:im.size<=1048576)(w:World)(oa:Option Addr)(na ca:Nat)(hvA:vA=.slice oa na ca)(p:Nat)(hp:pg=p)(p0:1<=p)(p1:p<=8)(k:Nat)(hk:ba=k)(hks:p*64=k)(i0:im.size<=pg*64)(i1:ba<=pg*64-im.size)(f0:0<=fu)(f1:fu<=2000)(s0:1<=sl)(s1:sl<=64)(r0:8<=ar)(r1:ar<=256)(n:Nat)(hsn:sl=n)(ans:List ByteArray)(ha:AnsAt w.heap.size ans vA w):
  Calls Tryz.prog 33 #[.agg #[.int .i64 pg,.string im,.int .u32 ba,.int .u32 en,vA,.int .i64 fu,.int .i64 sl,.int .i64 ar],.bool true] w fun e w'=>e=.returned (.tuple #[.pointer (some ⟨w.heap.size+1+1,0,none⟩),.int .i64 0])/\∃vS,Whole w.heap.size (w.heap.size+1+1) (w.heap.size+1) (start pg im ba en ans fu sl ar true) (.slice none 0 0) vA vS (.slice none 0 0) w'/\Below w.heap.size w w':=by
 subst hsn
 subst hp
 subst hvA
 subst hk
 have d1:decide ((p:Int)<1)=false:=by simp;omega
 have d2:decide (8<(p:Int))=false:=by simp;omega
 have d3:decide ((p:Int)*64<(im.size:Int))=false:=by simp;omega
 have d4:decide ((p:Int)*64-(im.size:Int)<(k:Int))=false:=by simp;omega
 have d5:decide (fu<0)=false:=by simp;omega
 have d6:decide (2000<fu)=false:=by simp;omega
 have d7:decide ((n:Int)<1)=false:=by simp;omega
 have d8:decide (64<(n:Int))=false:=by simp;omega
 have d9:decide (ar<8)=false:=by simp;omega
 have d10:decide (256<ar)=false:=by simp;omega
 have hmk:=make_mem p p1
 have hmk2:=make_slots n oM
 have HA:Hid (AnsAt w.heap.size ans (.slice oa na ca) w):=ha
 have HKS:Hid (p*64=k):=hks
 clear ha hks
 go_enter Tryz.func33,Tryz.ntmps33
 go_wp2_with fail
 go_region
 have hks:=HKS.out
 generalize hW:(((w.alloc (.cells #[.int .i64 (p:Int),.string im,.int .u32 (k:Int),.int .u32 en,(.slice oa na ca),.int .i64 fu,.int .i64 (n:Int),.int .i64 ar] 25)).alloc (.cells (madeCells #[.int .u8 0] (p*64)) 5)).alloc (.cells #[.int .i64 0,.int .u32 0,.int .u32 0,.int .u32 0,.int .u32 0,.int .u32 0,.int .u32 0,.int .u32 0,.int .u32 0,.int .u32 0,.int .u32 0,.int .u32 0,.int .u32 0,.int .u32 0,.int .u32 0,.int .u32 0,.int .u32 0,.int .u32 0,.int .u32 0,.int .u32 0,.int .u32 0,.int .u32 0,.int .u32 0,.int .u32 0,.int .u32 0,.int .u32 0,.int .u32 0,.int .u32 0,.int .u32 0,.int .u32 0,.int .u32 0,.int .u32 0,.int .u32 0,.int .u32 0,.int .u32 0,.string ⟨#[]⟩,.slice none 0 0,.int .i64 0,.int .i64 0,.slice (some ⟨w.heap.size+1,0,none⟩) (p*64) (p*64),.int .u32 ((k:Int)+im.size),.slice oa na ca,.int .i64 fu,.bool false,.slice none 0 0,.int .i64 ar,.int .i64 0,.int .u32 0,.int .i64 0,.int .i64 0,.slice none 0 0] 79)).drew=W
 have hr:=new_reft p na ca oa im k en fu n ar ans w
 have hs1:W.cell? ⟨w.heap.size,1,none⟩=some (.string im):=by rw[<-hW];exact new_set p na ca oa im k en fu n ar w 1
 have hs2:W.cell? ⟨w.heap.size,2,none⟩=some (.int .u32 (k:Int)):=by rw[<-hW];exact new_set p na ca oa im k en fu n ar w 2
 have hs6:W.cell? ⟨w.heap.size,6,none⟩=some (.int .i64 (n:Int)):=by rw[<-hW];exact new_set p na ca oa im k en fu n ar w 6
 have hs3:W.cell? ⟨w.heap.size,3,none⟩=some (.int .u32 en):=by rw[<-hW];exact new_set p na ca oa im k en fu n ar w 3
 have hbw:Touch [] w W:=by rw[<-hW];exact new_bel p na ca oa im k en fu n ar w
 rw[hW]at hr
 clear hW hmk
 have hsz:(start0 (p:Int) im (k:Int) ans fu (n:Int) ar true).size=p*64:=by simp[start0];omega
 have c39:W.cell? ⟨w.heap.size+1+1,39,none⟩=some (.slice (some ⟨w.heap.size+1,0,none⟩) (p*64) (p*64)):=by have:=hr.data;rw[hsz]at this;exact this
 obtain⟨w1,hw1⟩:∃w1,w1=W.drew.setCells (w.heap.size+1) k (strCells im):=⟨_,rfl⟩
 have hr2:RefAt w.heap.size (w.heap.size+1+1) (w.heap.size+1) (start0 (p:Int) im (k:Int) ans fu (n:Int) ar true) (.slice none 0 0) (.slice oa na ca) (.slice none 0 0) (.slice none 0 0) W.drew:=⟨hr.hb,hr.hmb,hr.ne,hr.cells,hr.data,hr.free,hr.bytes,hr.freem⟩
 have hkz:k+im.size<=p*64:=by omega
 have hrun:∀ty,(Builtin.copy_ #[74,9] ty #[.slice (some ⟨w.heap.size+1,0,none⟩) 0 0,.string im]).run Tryz.prog W.drew=.ok (goInt im.size) w1:=fun ty=>by
  rw[hw1];exact copy_run hr2 Xu2 k 0 0 0 im Xu2 (fun hp=>by omega) oM ty
 exact Xu0
theorem new_t(pg:Int)(im:ByteArray)(ba en:Int)(vA:Value)(fu sl ar:Int)(ba0:0<=ba)(ba1:ba<=4294967295)(him:im.size<=1048576)(w:World)(oa:Option Addr)(na ca:Nat)(hvA:vA=.slice oa na ca)(ans:List ByteArray)(ha:AnsAt w.heap.size ans vA w)(B:Nat)(hB:w.heap.size=B)(en0:0<=en)(en1:en<=4294967295)(hw:wrong pg im ba fu sl ar true=0):
  Calls Tryz.prog 33 #[.agg #[.int .i64 pg,.string im,.int .u32 ba,.int .u32 en,vA,.int .i64 fu,.int .i64 sl,.int .i64 ar],.bool true] w fun e w'=>e=.returned (.tuple #[.pointer (some ⟨B+1+1,0,none⟩),.int .i64 0])/\∃vS,Whole B (B+1+1) (B+1) (start pg im ba en ans fu sl ar true) (.slice none 0 0) vA vS (.slice none 0 0) w'/\Below B w w':=by
 subst hB
 obtain⟨_,p0,p1,i0,i1,f0,f1⟩:=good_start pg im ba en ans fu sl ar true ba0 en0 en1 hw
 obtain⟨_,s0,s1,r0,r1⟩:=wrong_0 pg im ba fu sl ar hw
 obtain⟨p,hp⟩:∃p:Nat,pg=p:=⟨pg.toNat,by omega⟩
 obtain⟨k,hk⟩:∃k:Nat,ba=k:=⟨ba.toNat,by omega⟩
 obtain⟨n,hn⟩:∃n:Nat,sl=n:=⟨sl.toNat,by omega⟩
 by_cases hks:p*64=k
 ·exact new_tkn pg im ba en vA fu sl ar ba0 ba1 him w oa na ca hvA p hp oM oM k hk hks i0 i1 f0 f1 s0 s1 r0 r1 n hn ans ha
 ·exact new_tky pg im ba en vA fu sl ar ba0 ba1 him w oa na ca hvA p hp oM oM k hk hks i0 i1 f0 f1 s0 s1 r0 r1 n hn ans ha
theorem playt_err(pg:Int)(im:ByteArray)(ba en:Int)(vA:Value)(fu sl ar:Int)(ba0:0<=ba)(ba1:ba<=4294967295)(him:im.size<=1048576)(w:World)(oa:Option Addr)(na ca:Nat)(hvA:vA=.slice oa na ca)(hw:¬wrong pg im ba fu sl ar true=0):
  Calls Tryz.prog 15 #[.agg #[.int .i64 pg,.string im,.int .u32 ba,.int .u32 en,vA,.int .i64 fu,.int .i64 sl,.int .i64 ar],.bool true] w fun e w'=>e=.returned (.tuple #[.agg rep0,.slice none 0 0,.int .i64 (wrong pg im ba fu sl ar true)])/\Below w.heap.size w w':=by
 subst hvA
 have HNE:Hid (∀w,_):=fun w=>new_te pg im ba en (.slice oa na ca) fu sl ar ba0 ba1 him w hw
 obtain⟨er,her⟩:∃er,er=wrong pg im ba fu sl ar true:=⟨_,rfl⟩
 rw[<-her]at HNE hw ⊢
 clear her
 go_enter Tryz.func15,Tryz.ntmps15
 go_wp2_with (first|(go_at_call 33;refine(HNE.out _).mono ?_;rintro e w1 ⟨rfl,hbel⟩;have HT:Hid (w1.there (w.heap.size+1) 0 39):=there_of (two_new w _ _) rfl (hbel.block (w.heap.size+1) sP);have HB:Hid (Below w.heap.size w w1):=(((Below.refl _ _).alloc sP _).alloc sP _).trans (hbel.mono (by simp;omega));clear hbel)|(refine wpList_store_mid rF 32 (.tmp 4) (.tmp 17) rF (w.heap.size+1) 0 rep0 rF rF HT.out info_rep rep0_one ?_;generalize hw2:w1.setCells (w.heap.size+1) 0 rep0.toList=w2;have H2:Hid (w1.setCells (w.heap.size+1) 0 rep0.toList=w2):=hw2;clear hw2))
 refine bodyPost_ret (results_ctt Tryz.results15 _ _ _ (w.heap.size+1) rep0.toList rF _ (by rw[<-H2.out];exact World.rangeAt_setCells_same _ _ _ _ HT.out) Tryz.underlying32 rfl info_rep) rfl ?_
 refine⟨rfl, ?_⟩
 rw[<-H2.out]
 exact below_setCells oM _ _ _ HB.out
theorem playt_ok(pg:Int)(im:ByteArray)(ba en:Int)(vA:Value)(fu sl ar:Int)(ba0:0<=ba)(ba1:ba<=4294967295)(him:im.size<=1048576)(w:World)(oa:Option Addr)(na ca:Nat)(hvA:vA=.slice oa na ca)(ans:List ByteArray)(ha:AnsAt w.heap.size ans vA w)(en0:0<=en)(en1:en<=4294967295)(hw:wrong pg im ba fu sl ar true=0):
  Calls Tryz.prog 15 #[.agg #[.int .i64 pg,.string im,.int .u32 ba,.int .u32 en,vA,.int .i64 fu,.int .i64 sl,.int .i64 ar],.bool true] w fun e w'=>∃m vE vB,e=.returned (.tuple #[.agg (repL m vE).toArray,vB,.int .i64 0])/\BRun (start pg im ba en ans fu sl ar true) m/\m.ended=true/\w'.ownsRow w.heap.size 52 3 vE m.evs.length (evCells m.evs)/\w'.ownsRow w.heap.size 44 4 vB m.blocks.length (blkCells m.blocks)/\Below w.heap.size w w':=by
 subst hvA
 have HMR:Hid (BRun (start pg im ba en ans fu sl ar true) (start pg im ba en ans fu sl ar true)):=bstart pg im ba en ans fu sl ar ba0 en0 en1 hw
 have HNW:Hid (∀w,AnsAt w.heap.size ans (.slice oa na ca) w->∀B,w.heap.size=B->_):=fun w ha B hB=>new_t pg im ba en (.slice oa na ca) fu sl ar ba0 ba1 him w oa na ca rfl ans ha B hB en0 en1 hw
 have HA:Hid (AnsAt w.heap.size ans (.slice oa na ca) w):=ha
 clear ha hw
 go_enter Tryz.func15,Tryz.ntmps15
 go_wp2_with fail
 refine Calls.mono (HNW.out _ (HA.out.mono2 (((Touch.refl _ _).alloc _).alloc _) fS) (w.heap.size+1+1) sP) ?_
 rintro e w1 ⟨rfl,vS1,hwh,hbel⟩
 have hlt1:w.heap.size+1+1<=w1.heap.size:=by have:=hbel.size;simp at this;omega
 have HT:Hid (w1.there (w.heap.size+1) 0 39):=there_of (two_new w _ _) rfl (hbel.block (w.heap.size+1) oM)
 have HB:Hid (Below w.heap.size w w1):=(((Below.refl _ _).alloc sP _).alloc sP _).trans (hbel.mono oM)
 have HW:Hid (Whole (w.heap.size+1+1) (w.heap.size+1+1+1+1) (w.heap.size+1+1+1) (start pg im ba en ans fu sl ar true) (.slice none 0 0) (.slice oa na ca) vS1 (.slice none 0 0) w1):=hwh
 clear hbel hwh
 go_wp2_with fail
 go_loopw [] (fun wr=>∃m vE vA' vS vB,Whole (w.heap.size+1+1) (w.heap.size+1+1+1+1) (w.heap.size+1+1+1) m vE vA' vS vB wr/\BRun (start pg im ba en ans fu sl ar true) m/\Below (w.heap.size+1+1) w1 wr) (fun wr=>msr (w.heap.size+1+1+1+1) wr)
 case atStart=>exact⟨_,_,_,_,_,HW.out,HMR.out,Below.refl _ _⟩
 case round=>
  obtain⟨m,vE,vA',vS,vB,hwm,hmr,hbr⟩:=hrel
  have c43:wr.cell? ⟨(w.heap.size+1+1+1+1),43,none⟩=some (.bool m.ended):=hwm.ref.cells 43 dC dC
  have HWm:Hid (Whole (w.heap.size+1+1) (w.heap.size+1+1+1+1) (w.heap.size+1+1+1) m vE vA' vS vB wr):=hwm
  have HMr:Hid (BRun (start pg im ba en ans fu sl ar true) m):=hmr
  have HBr:Hid (Below (w.heap.size+1+1) w1 wr):=hbr
  cases hen:m.ended with
  |false=>
   rw[hen]at c43
   have HE:Hid (m.ended=false):=hen
   clear hwm hmr hbr hen
   go_wp2_with fail
   have hbg:=HMr.out.bg
   rw[HE.out]at hbg
   have hbt:=HMr.out.bt1
   rw[HE.out]at hbt
   simp only[Bool.false_eq_true,if_false]at hbg hbt
   have hss:=HMr.out.good.fine.within
   have hfu:=HMr.out.good.fine.fuel.2
   have har:=HMr.out.ar
   have hus:=HMr.out.used
   have hdn:=HMr.out.done1
   refine(stepb_any HWm.out HMr.out.good HE.out HMr.out.done0 oM HMr.out.pos _ oM hbg HMr.out.sinv.s64 hus.1 oM HMr.out.bt0 oM).mono ?_
   rintro e w2 ⟨rfl,vE2,vA2,vS2,vB2,q1,q2⟩
   have HQ:Hid (Whole (w.heap.size+1+1) (w.heap.size+1+1+1+1) (w.heap.size+1+1+1) (mach.step m) vE2 vA2 vS2 vB2 w2/\Below (w.heap.size+1+1) wr w2):=⟨q1,q2⟩
   clear q1 q2 hbg hbt hss hfu har hus hdn
   go_wp2_with fail
   go_roundw
   case rel=>exact⟨_,vE2,vA2,vS2,vB2,HQ.out.1,(HMr.out.step HE.out).1,HBr.out.trans HQ.out.2⟩
   case measure=>
    have h2:=(HMr.out.step HE.out).2
    have h3:=(HMr.out.step HE.out).1.fuel.trans HMr.out.fuel.symm
    show msr (w.heap.size+1+1+1+1) w2<msr (w.heap.size+1+1+1+1) wr
    rw[msr_at HQ.out.1.ref,msr_at HWm.out.ref,HE.out]
    rcases h2 with h2|⟨h2,h4⟩
    ·rw[h2];simp
    ·by_cases k:(mach.step m).ended=true
     ·rw[k];simp
     ·rw[if_neg k,if_neg dC,h2,h3];omega
  |true=>
   rw[hen]at c43
   have HE:Hid (m.ended=true):=hen
   obtain⟨oE,nE,cE,hvE⟩:=own_slice hwm.evs
   subst hvE
   obtain⟨oB,nB,cB,hvB⟩:=own_slice hwm.blks
   subst hvB
   have cv:(convert 74 9 (.slice (some ⟨w.heap.size+1+1+1,0,none⟩) m.size m.size)).run Tryz.prog wr=.ok (.string (memD m.mem 0 m.size)) wr:=conv_mem hwm.ref hmr.good.fine.mem 0 m.size m.size oM
   have c39:=hwm.ref.data
   obtain⟨u35,c35⟩:=hwm.ref.there 35 dC
   have f35:=hwm.ref.free 35
   clear hwm hmr hbr hen
   go_wp2_with fail
   generalize h6:wr.setCell ⟨(w.heap.size+1+1+1+1),35,none⟩ (.string (memD m.mem 0 m.size))=w6
   obtain⟨cs,hcs⟩:∃cs,cs=repL m (.slice oE nE cE):=⟨_,rfl⟩
   have hcl:cs.length=39:=by rw[hcs];exact repL_len m _
   have hrg:w6.rangeAt (w.heap.size+1+1+1+1) 0 cs:=by rw[<-h6,hcs];exact rep_range HWm.out.ref HMr.out.good.fine.mem
   have hth:w6.there (w.heap.size+1) 0 39:=by rw[<-h6];exact there_set (there_below HT.out dC HBr.out oM) _ _ (by show w.heap.size+1+1+1+1≠w.heap.size+1;omega)
   have c50:w6.cell? ⟨(w.heap.size+1+1+1+1),50,none⟩=some (.slice oB nB cB):=by rw[<-h6,World.cell?_setCell_other _ _ _ _ sP];exact HWm.out.ref.cells 50 dC dC
   have l6:(w.heap.size+1+1+1+1)<w6.heap.size:=World.block_lt_of_cell? _ _ c50
   have hi:(Tryz.prog.info? 32).map (·.size)=some cs.length:=by rw[hcl];exact info_rep
   have h1c:∀v∈cs,v.oneCell'=true:=by rw[hcs];exact repL_one m _ rfl
   have H6:Hid (wr.setCell ⟨(w.heap.size+1+1+1+1),35,none⟩ (.string (memD m.mem 0 m.size))=w6):=h6
   have HCS:Hid (cs=repL m (.slice oE nE cE)):=hcs
   have hKS:∀w',Touch [w.heap.size+1] w6 w'->w'.cell? ⟨(w.heap.size+1+1+1+1),50,none⟩=some (.slice oB nB cB):=fun w' t=>(t.cell (p:=⟨(w.heap.size+1+1+1+1),50,none⟩) l6 (by simp;omega)).trans c50
   have HKS:Hid (∀w',Touch [w.heap.size+1] w6 w'->w'.cell? ⟨(w.heap.size+1+1+1+1),50,none⟩=some (.slice oB nB cB)):=hKS
   clear h6 hcs cv c35 f35 c39 c43 hKS
   refine wp_region_held_drew (S:=fun w'=>w'.rangeAt (w.heap.size+1+1+1+1) 0 cs/\w'.cell? ⟨(w.heap.size+1+1+1+1),50,none⟩=some (.slice oB nB cB)) kR ⟨hrg,c50⟩ (fun hHeld=> ?_)
   refine wpAnyH_take (i:=0) (oi:=⟨some 35,_,_,_,_,_⟩) (v:=(.pointer (some ⟨(w.heap.size+1+1+1+1),0,none⟩))) rfl kR kR kR (fun _ _ _ h=>h) (Or.inl ⟨by rfl, ?hy0⟩) aS ?rest0
   case hy0=>intro w' hSw;(try dsimp only at hSw);go_simp
   try simp only[Act.put,List.setIfInBounds_toArray,List.set_cons_zero,List.set_cons_succ]
   refine wpAnyH_take (i:=1) (oi:=⟨some 36,_,_,_,_,_⟩) (v:=(.pointer (some ⟨(w.heap.size+1+1+1+1),0,none⟩))) rfl kR kR kR (fun _ _ _ h=>h) (Or.inl ⟨by rfl, ?hy1⟩) aS ?rest1
   case hy1=>intro w' hSw;(try dsimp only at hSw);go_simp
   try simp only[Act.put,List.setIfInBounds_toArray,List.set_cons_zero,List.set_cons_succ]
   refine wpAnyH_take (i:=2) (oi:=⟨some 37,_,_,_,_,_⟩) (v:=(.pointer (some ⟨(w.heap.size+1+1+1+1),0,none⟩))) rfl kR kR kR (fun _ _ _ h=>h) (Or.inl ⟨by rfl, ?hy2⟩) aS ?rest2
   case hy2=>intro w' hSw;(try dsimp only at hSw);go_simp
   try simp only[Act.put,List.setIfInBounds_toArray,List.set_cons_zero,List.set_cons_succ]
   refine wpAnyH_take (i:=3) (oi:=⟨some 38,_,_,_,_,_⟩) (v:=.agg cs.toArray) rfl kR kR kR (fun _ _ _ h=>h) (yieldsIf_load_mid rF _ _ rfl (w.heap.size+1+1+1+1) 0 rfl cs _ (fun w' hSw=>hSw.1) Tryz.underlying32 rfl hi) aS ?rest3
   try simp only[Act.put,List.setIfInBounds_toArray,List.set_cons_zero,List.set_cons_succ]
   refine wpAnyH_take (i:=4) (oi:=⟨some 39,_,_,_,_,_⟩) (v:=(.pointer (some ⟨(w.heap.size+1+1+1+1),0,none⟩))) rfl kR kR kR (fun _ _ _ h=>h) (Or.inl ⟨by rfl, ?hy4⟩) aS ?rest4
   case hy4=>intro w' hSw;(try dsimp only at hSw);go_simp
   try simp only[Act.put,List.setIfInBounds_toArray,List.set_cons_zero,List.set_cons_succ]
   refine wpAnyH_take (i:=5) (oi:=⟨some 40,_,_,_,_,_⟩) (v:=(.pointer (some ⟨(w.heap.size+1+1+1+1),0,none⟩))) rfl kR kR kR (fun _ _ _ h=>h) (Or.inl ⟨by rfl, ?hy5⟩) aS ?rest5
   case hy5=>intro w' hSw;(try dsimp only at hSw);go_simp
   try simp only[Act.put,List.setIfInBounds_toArray,List.set_cons_zero,List.set_cons_succ]
   refine wpAnyH_take (i:=6) (oi:=⟨some 41,_,_,_,_,_⟩) (v:=(.pointer (some ⟨(w.heap.size+1+1+1+1),50,none⟩))) rfl kR kR kR (fun _ _ _ h=>h) (Or.inl ⟨by rfl, ?hy6⟩) aS ?rest6
   case hy6=>intro w' hSw;(try dsimp only at hSw);go_simp
   try simp only[Act.put,List.setIfInBounds_toArray,List.set_cons_zero,List.set_cons_succ]
   refine wpAnyH_take (i:=7) (oi:=⟨some 42,_,_,_,_,_⟩) (v:=(.slice oB nB cB)) rfl kR kR kR (fun _ _ _ h=>h) (Or.inl ⟨by rfl, ?hy7⟩) aS ?rest7
   case hy7=>intro w' hSw;(try dsimp only at hSw);go_simp
   try simp only[Act.put,List.setIfInBounds_toArray,List.set_cons_zero,List.set_cons_succ]
   refine wpAnyH_ready (rs:=[8]) kR sP ?_
   refine AllReadyH.cons (o:=⟨none,_,_,_,_,_⟩) rfl (fun K hK=> ?_) AllReadyH.nil
   rw[if_pos rF]
   refine wp_store_mid _ _ _ rfl (w.heap.size+1) 0 cs.toArray rfl rfl (by simp only[List.size_toArray,hcl];exact hth) (by simp only[List.size_toArray];exact hi) (all_oneCell_toArray h1c) ?_
   generalize h9:w6.drew.setCells (w.heap.size+1) 0 cs.toArray.toList=w9
   have t9:Touch [w.heap.size+1] w6 w9:=by rw[<-h9];exact touch_setCells sP _ _ _ _ (Touch.refl _ _).drew
   have r9:w9.rangeAt (w.heap.size+1) 0 cs:=by rw[<-h9,List.toList_toArray];exact World.rangeAt_setCells_same _ _ _ _ (by rw[hcl];exact hth)
   have hS9:w9.rangeAt (w.heap.size+1+1+1+1) 0 cs/\w9.cell? ⟨(w.heap.size+1+1+1+1),50,none⟩=some (.slice oB nB cB):=⟨by rw[<-h9];exact World.rangeAt_setCells_apart ((World.rangeAt_drew _ _ _ _).2 hrg) _ _ _ (Or.inl oM),HKS.out w9 t9⟩
   clear h9
   refine hK.out _ _ hS9 (fun hHeld9=> ?_)
   clear hK K
   try simp only[Act.put,List.setIfInBounds_toArray,List.set_cons_zero,List.set_cons_succ]
   refine wpAnyH_take (i:=9) (oi:=⟨some 5,_,_,_,_,_⟩) (v:=(.slice oB nB cB)) rfl kR kR kR (fun _ _ _ h=>h) (Or.inl ⟨by rfl, ?hy9⟩) aS ?rest9
   case hy9=>intro w' hSw;(try dsimp only at hSw);go_simp
   try simp only[Act.put,List.setIfInBounds_toArray,List.set_cons_zero,List.set_cons_succ]
   refine wpAnyH_take (i:=10) (oi:=⟨some 6,_,_,_,_,_⟩) (v:=(.int .i64 0)) rfl kR kR kR (fun _ _ _ h=>h) (Or.inl ⟨by rfl, ?hy10⟩) aS ?rest10
   case hy10=>intro w' hSw;(try dsimp only at hSw);go_simp
   try simp only[Act.put,List.setIfInBounds_toArray,List.set_cons_zero,List.set_cons_succ]
   refine wpAnyH_done kR ?_ _
   have T9:Hid (Touch [w.heap.size+1] w6 w9):=t9
   have R9:Hid (w9.rangeAt (w.heap.size+1) 0 cs):=r9
   clear t9 r9 hS9 hHeld9 hHeld hrg hth c50
   go_wp2_with fail
   refine bodyPost_ret (results_ctt Tryz.results15 _ _ _ (w.heap.size+1) cs rF _ R9.out Tryz.underlying32 rfl hi) rfl ?_
   have t6:Touch [(w.heap.size+1+1+1+1)] wr w6:=by rw[<-H6.out];exact(Touch.refl _ _).setCell sP _
   have lw:w.heap.size+1+1<=wr.heap.size:=Nat.le_trans hlt1 HBr.out.size
   refine⟨m,.slice oE nE cE,.slice oB nB cB,by rw[<-HCS.out];rfl,HMr.out,HE.out, ?_, ?_, ?_⟩
   ·refine own_base (own_touch (own_touch HWm.out.evs t6 (fun k hk=>by have:=(HWm.out.dE k hk).1;simpa using this)) T9.out (fun k hk=> ?_)) (by omega:w.heap.size<=w.heap.size+1+1)
    have:=(own_lt HWm.out.evs k hk).1
    simp;omega
   ·refine own_base (own_touch (own_touch HWm.out.blks t6 (fun k hk=>by have:=(HWm.out.dB k hk).1;simpa using this)) T9.out (fun k hk=> ?_)) (by omega:w.heap.size<=w.heap.size+1+1)
    have:=(own_lt HWm.out.blks k hk).1
    simp;omega
   ·exact(HB.out.trans ((HBr.out.mono oM).trans ((t6.below oM (by simp;omega)).trans (T9.out.below (Nat.le_trans (by omega:w.heap.size<=wr.heap.size) t6.size) sP))))
end ref
end Go.Proofs.YtjikimpejlmdiaaGreatDoor

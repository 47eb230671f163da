import Derived.Test.YtjikimpejlmdiaaGreatDoorZGj
import Derived.Deep.OwnRows
import Derived.BigRegion
set_option maxHeartbeats 4000000
set_option linter.unusedVariables false
set_option linter.unusedSimpArgs false
set_option maxRecDepth 10000
namespace Go.Proofs.YtjikimpejlmdiaaGreatDoor
theorem Xg0{p:Prop}(h:p:=by
 go_enter Tryz.func33,Tryz.ntmps33
 go_wp2_with fail
 go_ret2
 refine⟨rfl, ?_⟩
 (repeat' (first|with_reducible exact Below.refl _ _|with_reducible apply below_drewN|with_reducible apply Below.drew|with_reducible apply Below.alloc|with_reducible apply Below.setCell))<;>(first|(simp;done)|(simp;omega))):p:=h
theorem Xg1{p:Prop}(h:p:=by
 have hr1:RefAt w.heap.size (w.heap.size+1+1) (w.heap.size+1) {(start0 (p:Int) im (k:Int) ans fu sl ar false)with mem:=put (fun _=>0) k im } (.slice none 0 0) (.slice oa na ca) (.slice none 0 0) (.slice none 0 0) w1:=by rw[hw1];exact hr2.puts k im (by rw[hsz];omega)
 have ht1:Touch [w.heap.size+1] W w1:=by rw[hw1];exact touch_setCells sP _ _ _ _ (Touch.refl _ _).drew
 have e3:w1.cell? ⟨w.heap.size,3,none⟩=some (.int .u32 en):=(ht1.cell (p:=⟨w.heap.size,3,none⟩) (World.block_lt_of_cell? _ _ hs3) sP).trans hs3
 obtain⟨u1,e1⟩:=hr1.there 1 dC
 obtain⟨u34,e34⟩:=hr1.there 34 dC
 have e40:w1.cell? ⟨w.heap.size+1+1,40,none⟩=some (.int .u32 ((k:Int)+im.size)):=hr1.cells 40 dC dC
 have f1:=hr1.free 1
 have f34:=hr1.free 34
 have HR1:Hid (RefAt w.heap.size (w.heap.size+1+1) (w.heap.size+1) {(start0 (p:Int) im (k:Int) ans fu sl ar false)with mem:=put (fun _=>0) k im } (.slice none 0 0) (.slice oa na ca) (.slice none 0 0) (.slice none 0 0) w1):=hr1
 have HT1:Hid (Touch [w.heap.size+1] w w1):=(hbw.mono sP).trans ht1
 clear hr hr1 hr2 hw1 ht1 hbw hsz hkz
 go_wp2_with fail
 go_region
 go_wp2_with fail
 go_ret2
 have g1:=@at_brk w.heap.size (w.heap.size+1+1) (w.heap.size+1) _ (.slice none 0 0) (.slice oa na ca) (.slice none 0 0) (.slice none 0 0) _ (at_pc HR1.out en) ((k:Int)+im.size)
 have g2:Touch [w.heap.size+1+1,w.heap.size+1] w _:=((HT1.out.mono sP).setCell (a:=⟨w.heap.size+1+1,1,none⟩) sP (.int .u32 en)).setCell (a:=⟨w.heap.size+1+1,34,none⟩) sP (.int .u32 ((k:Int)+im.size))
 have g3:Below w.heap.size w _:=g2.below (Nat.le_refl _) (by intro i hi;simp at hi;omega)
 refine⟨rfl,⟨g1,Or.inl ⟨rfl,rfl⟩,World.ownsRow_nil _ _ _ _,HA.out.below g3,World.ownsRow_nil _ _ _ _,by simp[sblk],by simp[sblk],by simp[sblk]⟩,g3⟩):p:=h
theorem Xg2{p:Prop}(h:p:=by
 have d1:decide (pg<1)=false:=by simp;omega
 have d2:decide (8<pg)=false:=by simp;omega
 have d3:decide (pg*64<(im.size:Int))=false:=by simp;omega
 have d4:decide (pg*64-(im.size:Int)<ba)=false:=by simp;omega
 have d5:decide (fu<0)=false:=by simp;omega
 have d6:decide (2000<fu)=true:=by simpa using h1
 exact Xg0):p:=h
theorem Xg3{p:Prop}(h:p:=by
 have d1:decide (pg<1)=false:=by simp;omega
 have d2:decide (8<pg)=false:=by simp;omega
 have d3:decide (pg*64<(im.size:Int))=false:=by simp;omega
 have d4:decide (pg*64-(im.size:Int)<ba)=false:=by simp;omega
 have d5:decide (fu<0)=true:=by simpa using h1
 exact Xg0):p:=h
theorem Xg4{p:Prop}(h:p:=by
 have d1:decide (pg<1)=false:=by simp;omega
 have d2:decide (8<pg)=false:=by simp;omega
 have d3:decide (pg*64<(im.size:Int))=false:=by simp;omega
 have d4:decide (pg*64-(im.size:Int)<ba)=true:=by simpa using h1
 exact Xg0):p:=h
theorem Xg5{p:Prop}(h:p:=by
 have d1:decide (pg<1)=false:=by simp;omega
 have d2:decide (8<pg)=false:=by simp;omega
 have d3:decide (pg*64<(im.size:Int))=true:=by simpa using h1
 exact Xg0):p:=h
theorem Xg6{p:Prop}(h:p:=by
 have d1:decide (pg<1)=false:=by simp;omega
 have d2:decide (8<pg)=true:=by simpa using h1
 exact Xg0):p:=h
theorem Xg7{p:Prop}(h:p:=by
 have d1:decide (pg<1)=true:=by simpa using h1
 exact Xg0):p:=h
theorem Xg8{p:Prop}(h:p:=by rw[hsz];omega):p:=h
namespace ref
open ChangeShapes WideShapes ChangeAt RowKit nums dnums mach
attribute [local go_sem ↓] Go.wp_at_zero Go.wp_at_succ
def start (pg:Int) (im:ByteArray) (ba en:Int) (ans:List ByteArray) (fu sl ar:Int) (bl:Bool):M:=
 {out:=0,pc:=en,regs:=fun _=>0,brk:=ba+im.size,evs:=[],steps:=0,built:=0,mem:=put (fun _=>0) ba.toNat im,size:=(pg*64).toNat,low:=ba+im.size,ans:=ans,fuel:=fu,ended:=false,nslots:=if bl then sl.toNat else 0,slots:=fun _=>(0,0),arena:=ar,used:=0,cur:=(0,0),done:=0,blocks:=[] }
def start0 (pg:Int) (im:ByteArray) (ba:Int) (ans:List ByteArray) (fu sl ar:Int) (bl:Bool):M:=
 {out:=0,pc:=0,regs:=fun _=>0,brk:=0,evs:=[],steps:=0,built:=0,mem:=fun _=>0,size:=(pg*64).toNat,low:=ba+im.size,ans:=ans,fuel:=fu,ended:=false,nslots:=if bl then sl.toNat else 0,slots:=fun _=>(0,0),arena:=ar,used:=0,cur:=(0,0),done:=0,blocks:=[] }
def wrong (pg:Int) (im:ByteArray) (ba fu sl ar:Int) (bl:Bool):Int:=
 if pg<1\/8<pg then 1 else if pg*64<im.size\/pg*64-im.size<ba then 2 else if fu<0\/2000<fu then 3 else if bl=true/\(sl<1\/64<sl\/ar<8\/256<ar)then 4 else 0
theorem new_pg1f(pg:Int)(im:ByteArray)(ba en:Int)(vA:Value)(fu sl ar:Int)(ba0:0<=ba)(ba1:ba<=4294967295)(him:im.size<=1048576)(w:World)(h1:pg<1):
  Calls Tryz.prog 33 #[.agg #[.int .i64 pg,.string im,.int .u32 ba,.int .u32 en,vA,.int .i64 fu,.int .i64 sl,.int .i64 ar],.bool false] w fun e w'=>e=.returned (.tuple #[.pointer none,.int .i64 1])/\Below w.heap.size w w':=by
 exact Xg7
theorem new_pg2f(pg:Int)(im:ByteArray)(ba en:Int)(vA:Value)(fu sl ar:Int)(ba0:0<=ba)(ba1:ba<=4294967295)(him:im.size<=1048576)(w:World)(h1:8<pg):
  Calls Tryz.prog 33 #[.agg #[.int .i64 pg,.string im,.int .u32 ba,.int .u32 en,vA,.int .i64 fu,.int .i64 sl,.int .i64 ar],.bool false] w fun e w'=>e=.returned (.tuple #[.pointer none,.int .i64 1])/\Below w.heap.size w w':=by
 exact Xg6
theorem new_im1f(pg:Int)(im:ByteArray)(ba en:Int)(vA:Value)(fu sl ar:Int)(ba0:0<=ba)(ba1:ba<=4294967295)(him:im.size<=1048576)(w:World)(p0:1<=pg)(p1:pg<=8)(h1:pg*64<im.size):
  Calls Tryz.prog 33 #[.agg #[.int .i64 pg,.string im,.int .u32 ba,.int .u32 en,vA,.int .i64 fu,.int .i64 sl,.int .i64 ar],.bool false] w fun e w'=>e=.returned (.tuple #[.pointer none,.int .i64 2])/\Below w.heap.size w w':=by
 exact Xg5
theorem new_im2f(pg:Int)(im:ByteArray)(ba en:Int)(vA:Value)(fu sl ar:Int)(ba0:0<=ba)(ba1:ba<=4294967295)(him:im.size<=1048576)(w:World)(p0:1<=pg)(p1:pg<=8)(i0:im.size<=pg*64)(h1:pg*64-im.size<ba):
  Calls Tryz.prog 33 #[.agg #[.int .i64 pg,.string im,.int .u32 ba,.int .u32 en,vA,.int .i64 fu,.int .i64 sl,.int .i64 ar],.bool false] w fun e w'=>e=.returned (.tuple #[.pointer none,.int .i64 2])/\Below w.heap.size w w':=by
 exact Xg4
theorem new_fu1f(pg:Int)(im:ByteArray)(ba en:Int)(vA:Value)(fu sl ar:Int)(ba0:0<=ba)(ba1:ba<=4294967295)(him:im.size<=1048576)(w:World)(p0:1<=pg)(p1:pg<=8)(i0:im.size<=pg*64)(i1:ba<=pg*64-im.size)(h1:fu<0):
  Calls Tryz.prog 33 #[.agg #[.int .i64 pg,.string im,.int .u32 ba,.int .u32 en,vA,.int .i64 fu,.int .i64 sl,.int .i64 ar],.bool false] w fun e w'=>e=.returned (.tuple #[.pointer none,.int .i64 3])/\Below w.heap.size w w':=by
 exact Xg3
theorem new_fu2f(pg:Int)(im:ByteArray)(ba en:Int)(vA:Value)(fu sl ar:Int)(ba0:0<=ba)(ba1:ba<=4294967295)(him:im.size<=1048576)(w:World)(p0:1<=pg)(p1:pg<=8)(i0:im.size<=pg*64)(i1:ba<=pg*64-im.size)(h1:2000<fu):
  Calls Tryz.prog 33 #[.agg #[.int .i64 pg,.string im,.int .u32 ba,.int .u32 en,vA,.int .i64 fu,.int .i64 sl,.int .i64 ar],.bool false] w fun e w'=>e=.returned (.tuple #[.pointer none,.int .i64 3])/\Below w.heap.size w w':=by
 exact Xg2
theorem new_pg1t(pg:Int)(im:ByteArray)(ba en:Int)(vA:Value)(fu sl ar:Int)(ba0:0<=ba)(ba1:ba<=4294967295)(him:im.size<=1048576)(w:World)(h1:pg<1):
  Calls Tryz.prog 33 #[.agg #[.int .i64 pg,.string im,.int .u32 ba,.int .u32 en,vA,.int .i64 fu,.int .i64 sl,.int .i64 ar],.bool true] w fun e w'=>e=.returned (.tuple #[.pointer none,.int .i64 1])/\Below w.heap.size w w':=by
 exact Xg7
theorem new_pg2t(pg:Int)(im:ByteArray)(ba en:Int)(vA:Value)(fu sl ar:Int)(ba0:0<=ba)(ba1:ba<=4294967295)(him:im.size<=1048576)(w:World)(h1:8<pg):
  Calls Tryz.prog 33 #[.agg #[.int .i64 pg,.string im,.int .u32 ba,.int .u32 en,vA,.int .i64 fu,.int .i64 sl,.int .i64 ar],.bool true] w fun e w'=>e=.returned (.tuple #[.pointer none,.int .i64 1])/\Below w.heap.size w w':=by
 exact Xg6
theorem new_im1t(pg:Int)(im:ByteArray)(ba en:Int)(vA:Value)(fu sl ar:Int)(ba0:0<=ba)(ba1:ba<=4294967295)(him:im.size<=1048576)(w:World)(p0:1<=pg)(p1:pg<=8)(h1:pg*64<im.size):
  Calls Tryz.prog 33 #[.agg #[.int .i64 pg,.string im,.int .u32 ba,.int .u32 en,vA,.int .i64 fu,.int .i64 sl,.int .i64 ar],.bool true] w fun e w'=>e=.returned (.tuple #[.pointer none,.int .i64 2])/\Below w.heap.size w w':=by
 exact Xg5
theorem new_im2t(pg:Int)(im:ByteArray)(ba en:Int)(vA:Value)(fu sl ar:Int)(ba0:0<=ba)(ba1:ba<=4294967295)(him:im.size<=1048576)(w:World)(p0:1<=pg)(p1:pg<=8)(i0:im.size<=pg*64)(h1:pg*64-im.size<ba):
  Calls Tryz.prog 33 #[.agg #[.int .i64 pg,.string im,.int .u32 ba,.int .u32 en,vA,.int .i64 fu,.int .i64 sl,.int .i64 ar],.bool true] w fun e w'=>e=.returned (.tuple #[.pointer none,.int .i64 2])/\Below w.heap.size w w':=by
 exact Xg4
theorem new_fu1t(pg:Int)(im:ByteArray)(ba en:Int)(vA:Value)(fu sl ar:Int)(ba0:0<=ba)(ba1:ba<=4294967295)(him:im.size<=1048576)(w:World)(p0:1<=pg)(p1:pg<=8)(i0:im.size<=pg*64)(i1:ba<=pg*64-im.size)(h1:fu<0):
  Calls Tryz.prog 33 #[.agg #[.int .i64 pg,.string im,.int .u32 ba,.int .u32 en,vA,.int .i64 fu,.int .i64 sl,.int .i64 ar],.bool true] w fun e w'=>e=.returned (.tuple #[.pointer none,.int .i64 3])/\Below w.heap.size w w':=by
 exact Xg3
theorem new_fu2t(pg:Int)(im:ByteArray)(ba en:Int)(vA:Value)(fu sl ar:Int)(ba0:0<=ba)(ba1:ba<=4294967295)(him:im.size<=1048576)(w:World)(p0:1<=pg)(p1:pg<=8)(i0:im.size<=pg*64)(i1:ba<=pg*64-im.size)(h1:2000<fu):
  Calls Tryz.prog 33 #[.agg #[.int .i64 pg,.string im,.int .u32 ba,.int .u32 en,vA,.int .i64 fu,.int .i64 sl,.int .i64 ar],.bool true] w fun e w'=>e=.returned (.tuple #[.pointer none,.int .i64 3])/\Below w.heap.size w w':=by
 exact Xg2
theorem info_u8:(Tryz.prog.info? 5).map (fun i=>(i.zero,i.size,i.bytes))=some (some (.int .u8 0),1,1):=by kernel_rfl
theorem make_mem(p:Nat)(hp:p<=8)(w:World):(Instr.makeSlice 74 (.int .i64 ((p:Int)*64)) (.int .i64 ((p:Int)*64))).run Tryz.prog w=.ok (.slice (some ⟨w.heap.size,0,none⟩) (p*64) (p*64)) (w.alloc (.cells (madeCells #[.int .u8 0] (p*64)) 5)):=by
 have:=run_make_row' (P:=Tryz.prog) 74 5 (.int .u8 0) 1 Tryz.underlying74 info_u8 rfl .i64 .i64 (p*64) oM oM w
 rw[show(((p*64:Nat)):Int)=(p:Int)*64 by push_cast;rfl]at this
 exact this
theorem mach0_eq(g p na ca:Nat)(oa:Option Addr)(im:ByteArray)(ba en fu sl ar:Int)(ans:List ByteArray):
  (#[.int .i64 0,.int .u32 0,.int .u32 0,.int .u32 0,.int .u32 0,.int .u32 0,.int .u32 0,.int .u32 0,.int .u32 0,.int .u32 0,.int .u32 0,.int .u32 0,.int .u32 0,.int .u32 0,.int .u32 0,.int .u32 0,.int .u32 0,.int .u32 0,.int .u32 0,.int .u32 0,.int .u32 0,.int .u32 0,.int .u32 0,.int .u32 0,.int .u32 0,.int .u32 0,.int .u32 0,.int .u32 0,.int .u32 0,.int .u32 0,.int .u32 0,.int .u32 0,.int .u32 0,.int .u32 0,.int .u32 0,.string ⟨#[]⟩,.slice none 0 0,.int .i64 0,.int .i64 0,.slice (some ⟨g,0,none⟩) (p*64) (p*64),.int .u32 (ba+im.size),.slice oa na ca,.int .i64 fu,.bool false,.slice none 0 0,.int .i64 ar,.int .i64 0,.int .u32 0,.int .i64 0,.int .i64 0,.slice none 0 0]:Array Value)=((List.range 51).map fun i=>if i=39 then Value.slice (some ⟨g,0,none⟩) (p*64) (p*64)else lay (start0 (p:Int) im ba ans fu sl ar false) (.slice none 0 0) (.slice oa na ca) (.slice none 0 0) (.slice none 0 0) i).toArray:=by
 simp[List.range,List.range.loop,lay,start0]
 rfl
theorem made_at(z:Value)(n i:Nat)(hi:i<n):(madeCells #[z] n)[i]?=some z:=by
 have h1:=toList_madeCells_one z n
 have h2:(madeCells #[z] n)[i]?=(madeCells #[z] n).toList[i]?:=by simp
 rw[h2,h1];simp[hi]
theorem new_ref(p na ca:Nat)(oa:Option Addr)(im:ByteArray)(ba en fu sl ar:Int)(ans:List ByteArray)(w:World):
  RefAt w.heap.size (w.heap.size+1+1) (w.heap.size+1) (start0 (p:Int) im ba ans fu sl ar false) (.slice none 0 0) (.slice oa na ca) (.slice none 0 0) (.slice none 0 0) ((((w.alloc (.cells #[.int .i64 (p:Int),.string im,.int .u32 ba,.int .u32 en,(.slice oa na ca),.int .i64 fu,.int .i64 sl,.int .i64 ar] 25)).alloc (.cells (madeCells #[.int .u8 0] (p*64)) 5)).alloc (.cells #[.int .i64 0,.int .u32 0,.int .u32 0,.int .u32 0,.int .u32 0,.int .u32 0,.int .u32 0,.int .u32 0,.int .u32 0,.int .u32 0,.int .u32 0,.int .u32 0,.int .u32 0,.int .u32 0,.int .u32 0,.int .u32 0,.int .u32 0,.int .u32 0,.int .u32 0,.int .u32 0,.int .u32 0,.int .u32 0,.int .u32 0,.int .u32 0,.int .u32 0,.int .u32 0,.int .u32 0,.int .u32 0,.int .u32 0,.int .u32 0,.int .u32 0,.int .u32 0,.int .u32 0,.int .u32 0,.int .u32 0,.string ⟨#[]⟩,.slice none 0 0,.int .i64 0,.int .i64 0,.slice (some ⟨w.heap.size+1,0,none⟩) (p*64) (p*64),.int .u32 (ba+im.size),.slice oa na ca,.int .i64 fu,.bool false,.slice none 0 0,.int .i64 ar,.int .i64 0,.int .u32 0,.int .i64 0,.int .i64 0,.slice none 0 0] 79)).drew):=by
 have hs:(start0 (p:Int) im ba ans fu sl ar false).size=p*64:=by simp[start0];omega
 refine⟨by omega,by omega,by omega,fun i hi h39=> ?_, ?_,fun i=> ?_,fun i hi=> ?_,fun i=> ?_⟩
 ·show(((((w.alloc (.cells #[.int .i64 (p:Int),.string im,.int .u32 ba,.int .u32 en,(.slice oa na ca),.int .i64 fu,.int .i64 sl,.int .i64 ar] 25)).alloc (.cells (madeCells #[.int .u8 0] (p*64)) 5)).alloc (.cells #[.int .i64 0,.int .u32 0,.int .u32 0,.int .u32 0,.int .u32 0,.int .u32 0,.int .u32 0,.int .u32 0,.int .u32 0,.int .u32 0,.int .u32 0,.int .u32 0,.int .u32 0,.int .u32 0,.int .u32 0,.int .u32 0,.int .u32 0,.int .u32 0,.int .u32 0,.int .u32 0,.int .u32 0,.int .u32 0,.int .u32 0,.int .u32 0,.int .u32 0,.int .u32 0,.int .u32 0,.int .u32 0,.int .u32 0,.int .u32 0,.int .u32 0,.int .u32 0,.int .u32 0,.int .u32 0,.int .u32 0,.string ⟨#[]⟩,.slice none 0 0,.int .i64 0,.int .i64 0,.slice (some ⟨w.heap.size+1,0,none⟩) (p*64) (p*64),.int .u32 (ba+im.size),.slice oa na ca,.int .i64 fu,.bool false,.slice none 0 0,.int .i64 ar,.int .i64 0,.int .u32 0,.int .i64 0,.int .i64 0,.slice none 0 0] 79))).cell? ⟨w.heap.size+1+1,i,none⟩)=_
  rw[World.cell?_alloc_at _ _ _ _ sP,mach0_eq (w.heap.size+1) p na ca oa im ba en fu sl ar ans]
  simp[hi,h39]
 ·show(((((w.alloc (.cells #[.int .i64 (p:Int),.string im,.int .u32 ba,.int .u32 en,(.slice oa na ca),.int .i64 fu,.int .i64 sl,.int .i64 ar] 25)).alloc (.cells (madeCells #[.int .u8 0] (p*64)) 5)).alloc (.cells #[.int .i64 0,.int .u32 0,.int .u32 0,.int .u32 0,.int .u32 0,.int .u32 0,.int .u32 0,.int .u32 0,.int .u32 0,.int .u32 0,.int .u32 0,.int .u32 0,.int .u32 0,.int .u32 0,.int .u32 0,.int .u32 0,.int .u32 0,.int .u32 0,.int .u32 0,.int .u32 0,.int .u32 0,.int .u32 0,.int .u32 0,.int .u32 0,.int .u32 0,.int .u32 0,.int .u32 0,.int .u32 0,.int .u32 0,.int .u32 0,.int .u32 0,.int .u32 0,.int .u32 0,.int .u32 0,.int .u32 0,.string ⟨#[]⟩,.slice none 0 0,.int .i64 0,.int .i64 0,.slice (some ⟨w.heap.size+1,0,none⟩) (p*64) (p*64),.int .u32 (ba+im.size),.slice oa na ca,.int .i64 fu,.bool false,.slice none 0 0,.int .i64 ar,.int .i64 0,.int .u32 0,.int .i64 0,.int .i64 0,.slice none 0 0] 79))).cell? ⟨w.heap.size+1+1,39,none⟩)=_
  rw[World.cell?_alloc_at _ _ _ _ sP,hs]
  rfl
 ·show(((((w.alloc (.cells #[.int .i64 (p:Int),.string im,.int .u32 ba,.int .u32 en,(.slice oa na ca),.int .i64 fu,.int .i64 sl,.int .i64 ar] 25)).alloc (.cells (madeCells #[.int .u8 0] (p*64)) 5)).alloc (.cells #[.int .i64 0,.int .u32 0,.int .u32 0,.int .u32 0,.int .u32 0,.int .u32 0,.int .u32 0,.int .u32 0,.int .u32 0,.int .u32 0,.int .u32 0,.int .u32 0,.int .u32 0,.int .u32 0,.int .u32 0,.int .u32 0,.int .u32 0,.int .u32 0,.int .u32 0,.int .u32 0,.int .u32 0,.int .u32 0,.int .u32 0,.int .u32 0,.int .u32 0,.int .u32 0,.int .u32 0,.int .u32 0,.int .u32 0,.int .u32 0,.int .u32 0,.int .u32 0,.int .u32 0,.int .u32 0,.int .u32 0,.string ⟨#[]⟩,.slice none 0 0,.int .i64 0,.int .i64 0,.slice (some ⟨w.heap.size+1,0,none⟩) (p*64) (p*64),.int .u32 (ba+im.size),.slice oa na ca,.int .i64 fu,.bool false,.slice none 0 0,.int .i64 ar,.int .i64 0,.int .u32 0,.int .i64 0,.int .i64 0,.slice none 0 0] 79))).frozen? ⟨w.heap.size+1+1,i,none⟩)=_
  exact World.frozen?_alloc_at _ _ _ _ sP
 ·show(((((w.alloc (.cells #[.int .i64 (p:Int),.string im,.int .u32 ba,.int .u32 en,(.slice oa na ca),.int .i64 fu,.int .i64 sl,.int .i64 ar] 25)).alloc (.cells (madeCells #[.int .u8 0] (p*64)) 5)).alloc (.cells #[.int .i64 0,.int .u32 0,.int .u32 0,.int .u32 0,.int .u32 0,.int .u32 0,.int .u32 0,.int .u32 0,.int .u32 0,.int .u32 0,.int .u32 0,.int .u32 0,.int .u32 0,.int .u32 0,.int .u32 0,.int .u32 0,.int .u32 0,.int .u32 0,.int .u32 0,.int .u32 0,.int .u32 0,.int .u32 0,.int .u32 0,.int .u32 0,.int .u32 0,.int .u32 0,.int .u32 0,.int .u32 0,.int .u32 0,.int .u32 0,.int .u32 0,.int .u32 0,.int .u32 0,.int .u32 0,.int .u32 0,.string ⟨#[]⟩,.slice none 0 0,.int .i64 0,.int .i64 0,.slice (some ⟨w.heap.size+1,0,none⟩) (p*64) (p*64),.int .u32 (ba+im.size),.slice oa na ca,.int .i64 fu,.bool false,.slice none 0 0,.int .i64 ar,.int .i64 0,.int .u32 0,.int .i64 0,.int .i64 0,.slice none 0 0] 79))).cell? ⟨w.heap.size+1,i,none⟩)=_
  rw[World.cell?_alloc_past _ _ _ sP,World.cell?_alloc_at _ _ _ _ sP]
  exact made_at _ _ _ oM
 ·show(((((w.alloc (.cells #[.int .i64 (p:Int),.string im,.int .u32 ba,.int .u32 en,(.slice oa na ca),.int .i64 fu,.int .i64 sl,.int .i64 ar] 25)).alloc (.cells (madeCells #[.int .u8 0] (p*64)) 5)).alloc (.cells #[.int .i64 0,.int .u32 0,.int .u32 0,.int .u32 0,.int .u32 0,.int .u32 0,.int .u32 0,.int .u32 0,.int .u32 0,.int .u32 0,.int .u32 0,.int .u32 0,.int .u32 0,.int .u32 0,.int .u32 0,.int .u32 0,.int .u32 0,.int .u32 0,.int .u32 0,.int .u32 0,.int .u32 0,.int .u32 0,.int .u32 0,.int .u32 0,.int .u32 0,.int .u32 0,.int .u32 0,.int .u32 0,.int .u32 0,.int .u32 0,.int .u32 0,.int .u32 0,.int .u32 0,.int .u32 0,.int .u32 0,.string ⟨#[]⟩,.slice none 0 0,.int .i64 0,.int .i64 0,.slice (some ⟨w.heap.size+1,0,none⟩) (p*64) (p*64),.int .u32 (ba+im.size),.slice oa na ca,.int .i64 fu,.bool false,.slice none 0 0,.int .i64 ar,.int .i64 0,.int .u32 0,.int .i64 0,.int .i64 0,.slice none 0 0] 79))).frozen? ⟨w.heap.size+1,i,none⟩)=_
  rw[World.frozen?_alloc_past _ _ _ sP]
  exact World.frozen?_alloc_at _ _ _ _ sP
theorem new_set(p na ca:Nat)(oa:Option Addr)(im:ByteArray)(ba en fu sl ar:Int)(w:World)(i:Nat):
  ((((w.alloc (.cells #[.int .i64 (p:Int),.string im,.int .u32 ba,.int .u32 en,(.slice oa na ca),.int .i64 fu,.int .i64 sl,.int .i64 ar] 25)).alloc (.cells (madeCells #[.int .u8 0] (p*64)) 5)).alloc (.cells #[.int .i64 0,.int .u32 0,.int .u32 0,.int .u32 0,.int .u32 0,.int .u32 0,.int .u32 0,.int .u32 0,.int .u32 0,.int .u32 0,.int .u32 0,.int .u32 0,.int .u32 0,.int .u32 0,.int .u32 0,.int .u32 0,.int .u32 0,.int .u32 0,.int .u32 0,.int .u32 0,.int .u32 0,.int .u32 0,.int .u32 0,.int .u32 0,.int .u32 0,.int .u32 0,.int .u32 0,.int .u32 0,.int .u32 0,.int .u32 0,.int .u32 0,.int .u32 0,.int .u32 0,.int .u32 0,.int .u32 0,.string ⟨#[]⟩,.slice none 0 0,.int .i64 0,.int .i64 0,.slice (some ⟨w.heap.size+1,0,none⟩) (p*64) (p*64),.int .u32 (ba+im.size),.slice oa na ca,.int .i64 fu,.bool false,.slice none 0 0,.int .i64 ar,.int .i64 0,.int .u32 0,.int .i64 0,.int .i64 0,.slice none 0 0] 79)).drew).cell? ⟨w.heap.size,i,none⟩=(#[.int .i64 (p:Int),.string im,.int .u32 ba,.int .u32 en,(.slice oa na ca),.int .i64 fu,.int .i64 sl,.int .i64 ar]:Array Value)[i]?:=by
 show(((((w.alloc (.cells #[.int .i64 (p:Int),.string im,.int .u32 ba,.int .u32 en,(.slice oa na ca),.int .i64 fu,.int .i64 sl,.int .i64 ar] 25)).alloc (.cells (madeCells #[.int .u8 0] (p*64)) 5)).alloc (.cells #[.int .i64 0,.int .u32 0,.int .u32 0,.int .u32 0,.int .u32 0,.int .u32 0,.int .u32 0,.int .u32 0,.int .u32 0,.int .u32 0,.int .u32 0,.int .u32 0,.int .u32 0,.int .u32 0,.int .u32 0,.int .u32 0,.int .u32 0,.int .u32 0,.int .u32 0,.int .u32 0,.int .u32 0,.int .u32 0,.int .u32 0,.int .u32 0,.int .u32 0,.int .u32 0,.int .u32 0,.int .u32 0,.int .u32 0,.int .u32 0,.int .u32 0,.int .u32 0,.int .u32 0,.int .u32 0,.int .u32 0,.string ⟨#[]⟩,.slice none 0 0,.int .i64 0,.int .i64 0,.slice (some ⟨w.heap.size+1,0,none⟩) (p*64) (p*64),.int .u32 (ba+im.size),.slice oa na ca,.int .i64 fu,.bool false,.slice none 0 0,.int .i64 ar,.int .i64 0,.int .u32 0,.int .i64 0,.int .i64 0,.slice none 0 0] 79))).cell? ⟨w.heap.size,i,none⟩)=_
 rw[World.cell?_alloc_past _ _ _ (by simp;omega),World.cell?_alloc_past _ _ _ sP,World.cell?_alloc_at _ _ _ _ rfl]
theorem new_bel(p na ca:Nat)(oa:Option Addr)(im:ByteArray)(ba en fu sl ar:Int)(w:World):Touch [] w ((((w.alloc (.cells #[.int .i64 (p:Int),.string im,.int .u32 ba,.int .u32 en,(.slice oa na ca),.int .i64 fu,.int .i64 sl,.int .i64 ar] 25)).alloc (.cells (madeCells #[.int .u8 0] (p*64)) 5)).alloc (.cells #[.int .i64 0,.int .u32 0,.int .u32 0,.int .u32 0,.int .u32 0,.int .u32 0,.int .u32 0,.int .u32 0,.int .u32 0,.int .u32 0,.int .u32 0,.int .u32 0,.int .u32 0,.int .u32 0,.int .u32 0,.int .u32 0,.int .u32 0,.int .u32 0,.int .u32 0,.int .u32 0,.int .u32 0,.int .u32 0,.int .u32 0,.int .u32 0,.int .u32 0,.int .u32 0,.int .u32 0,.int .u32 0,.int .u32 0,.int .u32 0,.int .u32 0,.int .u32 0,.int .u32 0,.int .u32 0,.int .u32 0,.string ⟨#[]⟩,.slice none 0 0,.int .i64 0,.int .i64 0,.slice (some ⟨w.heap.size+1,0,none⟩) (p*64) (p*64),.int .u32 (ba+im.size),.slice oa na ca,.int .i64 fu,.bool false,.slice none 0 0,.int .i64 ar,.int .i64 0,.int .u32 0,.int .i64 0,.int .i64 0,.slice none 0 0] 79)).drew):=(((Touch.refl _ _).alloc _).alloc _).alloc _ |>.drew
theorem at_pc{B b mb:Nat}{m:M}{vE vA vS vB:Value}{w:World}(h:RefAt B b mb m vE vA vS vB w)(v:Int):RefAt B b mb {m with pc:=v } vE vA vS vB (w.setCell ⟨b,1,none⟩ (.int .u32 v)):=
 h.upd (m':={m with pc:=v }) (vE':=vE) (vA':=vA) (vS':=vS) (vB':=vB) 1 dC dC _ rfl rfl (fun i hi h39=>Or.elim (Decidable.em (i=1)) (fun e=>by subst e;simp[lay]) (fun e=>by simp[lay,e]))
theorem new_oky(pg:Int)(im:ByteArray)(ba en:Int)(vA:Value)(fu sl ar:Int)(ba0:0<=ba)(ba1:ba<=4294967295)(him:im.size<=1048576)(w:World)(oa:Option Addr)(na ca:Nat)(hvA:vA=.slice oa na ca)(p:Nat)(hp:pg=p)(p0:1<=p)(p1:p<=8)(k:Nat)(hk:ba=k)(hks:¬p*64=k)(i0:im.size<=pg*64)(i1:ba<=pg*64-im.size)(f0:0<=fu)(f1:fu<=2000)(ans:List ByteArray)(ha:AnsAt w.heap.size ans vA w):
  Calls Tryz.prog 33 #[.agg #[.int .i64 pg,.string im,.int .u32 ba,.int .u32 en,vA,.int .i64 fu,.int .i64 sl,.int .i64 ar],.bool false] w fun e w'=>e=.returned (.tuple #[.pointer (some ⟨w.heap.size+1+1,0,none⟩),.int .i64 0])/\Whole w.heap.size (w.heap.size+1+1) (w.heap.size+1) (start pg im ba en ans fu sl ar false) (.slice none 0 0) vA (.slice none 0 0) (.slice none 0 0) w'/\Below w.heap.size w w':=by
 subst hp
 subst hvA
 subst hk
 have d1:decide ((p:Int)<1)=false:=by simp;omega
 have d2:decide (8<(p:Int))=false:=by simp;omega
 have d3:decide ((p:Int)*64<(im.size:Int))=false:=by simp;omega
 have d4:decide ((p:Int)*64-(im.size:Int)<(k:Int))=false:=by simp;omega
 have d5:decide (fu<0)=false:=by simp;omega
 have d6:decide (2000<fu)=false:=by simp;omega
 have hmk:=make_mem p p1
 have HA:Hid (AnsAt w.heap.size ans (.slice oa na ca) w):=ha
 have HKS:Hid (¬p*64=k):=hks
 clear ha hks
 go_enter Tryz.func33,Tryz.ntmps33
 go_wp2_with fail
 go_region
 have hks:=HKS.out
 generalize hW:(((w.alloc (.cells #[.int .i64 (p:Int),.string im,.int .u32 (k:Int),.int .u32 en,(.slice oa na ca),.int .i64 fu,.int .i64 sl,.int .i64 ar] 25)).alloc (.cells (madeCells #[.int .u8 0] (p*64)) 5)).alloc (.cells #[.int .i64 0,.int .u32 0,.int .u32 0,.int .u32 0,.int .u32 0,.int .u32 0,.int .u32 0,.int .u32 0,.int .u32 0,.int .u32 0,.int .u32 0,.int .u32 0,.int .u32 0,.int .u32 0,.int .u32 0,.int .u32 0,.int .u32 0,.int .u32 0,.int .u32 0,.int .u32 0,.int .u32 0,.int .u32 0,.int .u32 0,.int .u32 0,.int .u32 0,.int .u32 0,.int .u32 0,.int .u32 0,.int .u32 0,.int .u32 0,.int .u32 0,.int .u32 0,.int .u32 0,.int .u32 0,.int .u32 0,.string ⟨#[]⟩,.slice none 0 0,.int .i64 0,.int .i64 0,.slice (some ⟨w.heap.size+1,0,none⟩) (p*64) (p*64),.int .u32 ((k:Int)+im.size),.slice oa na ca,.int .i64 fu,.bool false,.slice none 0 0,.int .i64 ar,.int .i64 0,.int .u32 0,.int .i64 0,.int .i64 0,.slice none 0 0] 79)).drew=W
 have hr:=new_ref p na ca oa im k en fu sl ar ans w
 have hs1:W.cell? ⟨w.heap.size,1,none⟩=some (.string im):=by rw[<-hW];exact new_set p na ca oa im k en fu sl ar w 1
 have hs2:W.cell? ⟨w.heap.size,2,none⟩=some (.int .u32 (k:Int)):=by rw[<-hW];exact new_set p na ca oa im k en fu sl ar w 2
 have hs3:W.cell? ⟨w.heap.size,3,none⟩=some (.int .u32 en):=by rw[<-hW];exact new_set p na ca oa im k en fu sl ar w 3
 have hbw:Touch [] w W:=by rw[<-hW];exact new_bel p na ca oa im k en fu sl ar w
 rw[hW]at hr
 clear hW hmk
 have hsz:(start0 (p:Int) im (k:Int) ans fu sl ar false).size=p*64:=by simp[start0];omega
 have c39:W.cell? ⟨w.heap.size+1+1,39,none⟩=some (.slice (some ⟨w.heap.size+1,0,none⟩) (p*64) (p*64)):=by have:=hr.data;rw[hsz]at this;exact this
 obtain⟨w1,hw1⟩:∃w1,w1=W.drew.setCells (w.heap.size+1) k (strCells im):=⟨_,rfl⟩
 have hr2:RefAt w.heap.size (w.heap.size+1+1) (w.heap.size+1) (start0 (p:Int) im (k:Int) ans fu sl ar false) (.slice none 0 0) (.slice oa na ca) (.slice none 0 0) (.slice none 0 0) W.drew:=⟨hr.hb,hr.hmb,hr.ne,hr.cells,hr.data,hr.free,hr.bytes,hr.freem⟩
 have hkz:k+im.size<=p*64:=by omega
 have hrun:∀ty,(Builtin.copy_ #[74,9] ty #[.slice (some ⟨w.heap.size+1,k,none⟩) (p*64-k) (p*64-k),.string im]).run Tryz.prog W.drew=.ok (goInt im.size) w1:=fun ty=>by
  rw[hw1];exact copy_run hr2 Xg8 k k (p*64-k) (p*64-k) im Xg8 (fun hp=>rfl) oM ty
 exact Xg1
theorem new_okn(pg:Int)(im:ByteArray)(ba en:Int)(vA:Value)(fu sl ar:Int)(ba0:0<=ba)(ba1:ba<=4294967295)(him:im.size<=1048576)(w:World)(oa:Option Addr)(na ca:Nat)(hvA:vA=.slice oa na ca)(p:Nat)(hp:pg=p)(p0:1<=p)(p1:p<=8)(k:Nat)(hk:ba=k)(hks:p*64=k)(i0:im.size<=pg*64)(i1:ba<=pg*64-im.size)(f0:0<=fu)(f1:fu<=2000)(ans:List ByteArray)(ha:AnsAt w.heap.size ans vA w):
  Calls Tryz.prog 33 #[.agg #[.int .i64 pg,.string im,.int .u32 ba,.int .u32 en,vA,.int .i64 fu,.int .i64 sl,.int .i64 ar],.bool false] w fun e w'=>e=.returned (.tuple #[.pointer (some ⟨w.heap.size+1+1,0,none⟩),.int .i64 0])/\Whole w.heap.size (w.heap.size+1+1) (w.heap.size+1) (start pg im ba en ans fu sl ar false) (.slice none 0 0) vA (.slice none 0 0) (.slice none 0 0) w'/\Below w.heap.size w w':=by
 subst hp
 subst hvA
 subst hk
 have d1:decide ((p:Int)<1)=false:=by simp;omega
 have d2:decide (8<(p:Int))=false:=by simp;omega
 have d3:decide ((p:Int)*64<(im.size:Int))=false:=by simp;omega
 have d4:decide ((p:Int)*64-(im.size:Int)<(k:Int))=false:=by simp;omega
 have d5:decide (fu<0)=false:=by simp;omega
 have d6:decide (2000<fu)=false:=by simp;omega
 have hmk:=make_mem p p1
 have HA:Hid (AnsAt w.heap.size ans (.slice oa na ca) w):=ha
 have HKS:Hid (p*64=k):=hks
 clear ha hks
 go_enter Tryz.func33,Tryz.ntmps33
 go_wp2_with fail
 go_region
 have hks:=HKS.out
 generalize hW:(((w.alloc (.cells #[.int .i64 (p:Int),.string im,.int .u32 (k:Int),.int .u32 en,(.slice oa na ca),.int .i64 fu,.int .i64 sl,.int .i64 ar] 25)).alloc (.cells (madeCells #[.int .u8 0] (p*64)) 5)).alloc (.cells #[.int .i64 0,.int .u32 0,.int .u32 0,.int .u32 0,.int .u32 0,.int .u32 0,.int .u32 0,.int .u32 0,.int .u32 0,.int .u32 0,.int .u32 0,.int .u32 0,.int .u32 0,.int .u32 0,.int .u32 0,.int .u32 0,.int .u32 0,.int .u32 0,.int .u32 0,.int .u32 0,.int .u32 0,.int .u32 0,.int .u32 0,.int .u32 0,.int .u32 0,.int .u32 0,.int .u32 0,.int .u32 0,.int .u32 0,.int .u32 0,.int .u32 0,.int .u32 0,.int .u32 0,.int .u32 0,.int .u32 0,.string ⟨#[]⟩,.slice none 0 0,.int .i64 0,.int .i64 0,.slice (some ⟨w.heap.size+1,0,none⟩) (p*64) (p*64),.int .u32 ((k:Int)+im.size),.slice oa na ca,.int .i64 fu,.bool false,.slice none 0 0,.int .i64 ar,.int .i64 0,.int .u32 0,.int .i64 0,.int .i64 0,.slice none 0 0] 79)).drew=W
 have hr:=new_ref p na ca oa im k en fu sl ar ans w
 have hs1:W.cell? ⟨w.heap.size,1,none⟩=some (.string im):=by rw[<-hW];exact new_set p na ca oa im k en fu sl ar w 1
 have hs2:W.cell? ⟨w.heap.size,2,none⟩=some (.int .u32 (k:Int)):=by rw[<-hW];exact new_set p na ca oa im k en fu sl ar w 2
 have hs3:W.cell? ⟨w.heap.size,3,none⟩=some (.int .u32 en):=by rw[<-hW];exact new_set p na ca oa im k en fu sl ar w 3
 have hbw:Touch [] w W:=by rw[<-hW];exact new_bel p na ca oa im k en fu sl ar w
 rw[hW]at hr
 clear hW hmk
 have hsz:(start0 (p:Int) im (k:Int) ans fu sl ar false).size=p*64:=by simp[start0];omega
 have c39:W.cell? ⟨w.heap.size+1+1,39,none⟩=some (.slice (some ⟨w.heap.size+1,0,none⟩) (p*64) (p*64)):=by have:=hr.data;rw[hsz]at this;exact this
 obtain⟨w1,hw1⟩:∃w1,w1=W.drew.setCells (w.heap.size+1) k (strCells im):=⟨_,rfl⟩
 have hr2:RefAt w.heap.size (w.heap.size+1+1) (w.heap.size+1) (start0 (p:Int) im (k:Int) ans fu sl ar false) (.slice none 0 0) (.slice oa na ca) (.slice none 0 0) (.slice none 0 0) W.drew:=⟨hr.hb,hr.hmb,hr.ne,hr.cells,hr.data,hr.free,hr.bytes,hr.freem⟩
 have hkz:k+im.size<=p*64:=by omega
 have hrun:∀ty,(Builtin.copy_ #[74,9] ty #[.slice (some ⟨w.heap.size+1,0,none⟩) 0 0,.string im]).run Tryz.prog W.drew=.ok (goInt im.size) w1:=fun ty=>by
  rw[hw1];exact copy_run hr2 Xg8 k 0 0 0 im Xg8 (fun hp=>by omega) oM ty
 exact Xg1
end ref
end Go.Proofs.YtjikimpejlmdiaaGreatDoor

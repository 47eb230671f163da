import Derived.Test.YtjikimpejlmdiaaGreatDoorZGb
set_option maxHeartbeats 4000000
set_option linter.unusedVariables false
set_option linter.unusedSimpArgs false
set_option maxRecDepth 10000
namespace Go.Proofs.YtjikimpejlmdiaaGreatDoor
theorem X60{p:Prop}(h:p:=by
 have HC:Hid (Touch (b::mb::sblk vS) w w1):=(HT3.out.mono sP).trans (hto.mono (by simp;intro i hi;exact Or.inr (Or.inr hi)))
 clear hat hsl hto
 go_wp2_with fail
 go_ret
 exact⟨rfl,HA.out,HB.out,HC.out⟩):p:=h
theorem X61{p:Prop}(h:p:=by
 go_ret
 exact⟨rfl,HA.out,HB.out⟩):p:=h
theorem X62{p:Prop}(h:p:=by simp only[h1,h2,h3,if_true,if_false,ite_false,ite_true,Bool.false_eq_true]):p:=h
theorem X63{p:Prop}(h:p:=by show _<m.size;omega):p:=h
namespace ref
open ChangeShapes WideShapes ChangeAt RowKit nums dnums mach
theorem mld10{B b mb:Nat}{m:M}{vE vA vS vB:Value}{w:World}(h:RefAt B b mb m vE vA vS vB w)(hs:SlotsAt b mb m vS w)(hz:0<m.size)(hz2:m.size<=512)(hc0:0<=m.cur.1)(hc1:m.cur.1<=4294967295)(hm:∀i,0<=m.mem i/\m.mem i<=255)(rd q1 q2 im:Int)(rd0:0<=rd)(rd1:rd<=31)(a v:Int)(a0:0<=a)(a1:a<=4294967295)(v0:0<=v)(v1:v<=4294967295)(k:Nat)(ek:a=k)(hl:lies m k 1=true):
  Calls Tryz.prog 82 #[.pointer (some ⟨b,0,none⟩),.agg #[.int .i64 10,.int .i64 rd,.int .i64 q1,.int .i64 q2,.int .i32 im],.int .u32 a,.int .u32 v] w fun e w'=>e=.returned (.bool true)/\RefAt B b mb (setReg m rd (sx8 (ld m.mem k 1)%4294967296)) vE vA vS vB w'/\Touch [b] w w':=by
 subst ek
 obtain⟨HT,HW,HS⟩:=mpre h hs hz 10 rd q1 q2 im
 have hk:k+1<=m.size:=by simp[lies]at hl;omega
 have HM:Hid (∀i,0<=m.mem i/\m.mem i<=255):=hm
 have HL0:Hid (0<=ld m.mem k 1):=(ld_bd m.mem hm k 1).1
 have HL1:Hid (ld m.mem k 1<256):=(ld_bd m.mem hm k 1).2
 have l0:=HL0.out
 have l1:=HL1.out
 clear h hs hm
 go_enter Tryz.func82,Tryz.ntmps82
 go_wp2_with (first|(go_at_call 51;refine(lies_any HW.out (k:Int) 1 a0 a1 dC dC hz2).mono ?_;rintro e w' ⟨rfl,rfl⟩)|(go_at_call 52;refine(load_1 HW.out k hk hz2 HM.out).mono ?_;rintro e w' ⟨rfl,rfl⟩)|(go_at_call 60;refine(sg_8 _ HL0.out HL1.out _).mono ?_;rintro e w' ⟨rfl,rfl⟩)|(go_at_call 80;refine(set_any HW.out rd (sx8 (ld m.mem k 1)%4294967296) rd0 rd1).mono ?_;rintro e w1 ⟨rfl,hat,hto⟩;have HA:Hid (RefAt B b mb (setReg m rd (sx8 (ld m.mem k 1)%4294967296)) vE vA vS vB w1):=hat;have HB:Hid (Touch [b] w w1):=(HT.out.mono sP).trans hto;clear hat hto))
 exact X61
theorem mld11{B b mb:Nat}{m:M}{vE vA vS vB:Value}{w:World}(h:RefAt B b mb m vE vA vS vB w)(hs:SlotsAt b mb m vS w)(hz:0<m.size)(hz2:m.size<=512)(hc0:0<=m.cur.1)(hc1:m.cur.1<=4294967295)(hm:∀i,0<=m.mem i/\m.mem i<=255)(rd q1 q2 im:Int)(rd0:0<=rd)(rd1:rd<=31)(a v:Int)(a0:0<=a)(a1:a<=4294967295)(v0:0<=v)(v1:v<=4294967295)(k:Nat)(ek:a=k)(hal:(k:Int)%2=0)(hl:lies m k 2=true):
  Calls Tryz.prog 82 #[.pointer (some ⟨b,0,none⟩),.agg #[.int .i64 11,.int .i64 rd,.int .i64 q1,.int .i64 q2,.int .i32 im],.int .u32 a,.int .u32 v] w fun e w'=>e=.returned (.bool true)/\RefAt B b mb (setReg m rd (sx16 (ld m.mem k 2)%4294967296)) vE vA vS vB w'/\Touch [b] w w':=by
 subst ek
 obtain⟨HT,HW,HS⟩:=mpre h hs hz 11 rd q1 q2 im
 have hk:k+2<=m.size:=by simp[lies]at hl;omega
 have HM:Hid (∀i,0<=m.mem i/\m.mem i<=255):=hm
 have HL0:Hid (0<=ld m.mem k 2):=(ld_bd m.mem hm k 2).1
 have HL1:Hid (ld m.mem k 2<65536):=(ld_bd m.mem hm k 2).2
 have l0:=HL0.out
 have l1:=HL1.out
 clear h hs hm
 go_enter Tryz.func82,Tryz.ntmps82
 go_wp2_with (first|(go_at_call 51;refine(lies_any HW.out (k:Int) 2 a0 a1 dC dC hz2).mono ?_;rintro e w' ⟨rfl,rfl⟩)|(go_at_call 52;refine(load_2 HW.out k hk hz2 HM.out).mono ?_;rintro e w' ⟨rfl,rfl⟩)|(go_at_call 60;refine(sg_16 _ HL0.out HL1.out _).mono ?_;rintro e w' ⟨rfl,rfl⟩)|(go_at_call 80;refine(set_any HW.out rd (sx16 (ld m.mem k 2)%4294967296) rd0 rd1).mono ?_;rintro e w1 ⟨rfl,hat,hto⟩;have HA:Hid (RefAt B b mb (setReg m rd (sx16 (ld m.mem k 2)%4294967296)) vE vA vS vB w1):=hat;have HB:Hid (Touch [b] w w1):=(HT.out.mono sP).trans hto;clear hat hto))
 exact X61
theorem mld12{B b mb:Nat}{m:M}{vE vA vS vB:Value}{w:World}(h:RefAt B b mb m vE vA vS vB w)(hs:SlotsAt b mb m vS w)(hz:0<m.size)(hz2:m.size<=512)(hc0:0<=m.cur.1)(hc1:m.cur.1<=4294967295)(hm:∀i,0<=m.mem i/\m.mem i<=255)(rd q1 q2 im:Int)(rd0:0<=rd)(rd1:rd<=31)(a v:Int)(a0:0<=a)(a1:a<=4294967295)(v0:0<=v)(v1:v<=4294967295)(k:Nat)(ek:a=k)(hal:(k:Int)%4=0)(hl:lies m k 4=true):
  Calls Tryz.prog 82 #[.pointer (some ⟨b,0,none⟩),.agg #[.int .i64 12,.int .i64 rd,.int .i64 q1,.int .i64 q2,.int .i32 im],.int .u32 a,.int .u32 v] w fun e w'=>e=.returned (.bool true)/\RefAt B b mb (setReg m rd (ld m.mem k 4)) vE vA vS vB w'/\Touch [b] w w':=by
 subst ek
 obtain⟨HT,HW,HS⟩:=mpre h hs hz 12 rd q1 q2 im
 have hk:k+4<=m.size:=by simp[lies]at hl;omega
 have HM:Hid (∀i,0<=m.mem i/\m.mem i<=255):=hm
 have HL0:Hid (0<=ld m.mem k 4):=(ld_bd m.mem hm k 4).1
 have HL1:Hid (ld m.mem k 4<4294967296):=(ld_bd m.mem hm k 4).2
 have l0:=HL0.out
 have l1:=HL1.out
 clear h hs hm
 go_enter Tryz.func82,Tryz.ntmps82
 go_wp2_with (first|(go_at_call 51;refine(lies_any HW.out (k:Int) 4 a0 a1 dC dC hz2).mono ?_;rintro e w' ⟨rfl,rfl⟩)|(go_at_call 52;refine(load_4 HW.out k hk hz2 HM.out).mono ?_;rintro e w' ⟨rfl,rfl⟩)|(go_at_call 80;refine(set_any HW.out rd (ld m.mem k 4) rd0 rd1).mono ?_;rintro e w1 ⟨rfl,hat,hto⟩;have HA:Hid (RefAt B b mb (setReg m rd (ld m.mem k 4)) vE vA vS vB w1):=hat;have HB:Hid (Touch [b] w w1):=(HT.out.mono sP).trans hto;clear hat hto))
 exact X61
theorem mld13{B b mb:Nat}{m:M}{vE vA vS vB:Value}{w:World}(h:RefAt B b mb m vE vA vS vB w)(hs:SlotsAt b mb m vS w)(hz:0<m.size)(hz2:m.size<=512)(hc0:0<=m.cur.1)(hc1:m.cur.1<=4294967295)(hm:∀i,0<=m.mem i/\m.mem i<=255)(rd q1 q2 im:Int)(rd0:0<=rd)(rd1:rd<=31)(a v:Int)(a0:0<=a)(a1:a<=4294967295)(v0:0<=v)(v1:v<=4294967295)(k:Nat)(ek:a=k)(hl:lies m k 1=true):
  Calls Tryz.prog 82 #[.pointer (some ⟨b,0,none⟩),.agg #[.int .i64 13,.int .i64 rd,.int .i64 q1,.int .i64 q2,.int .i32 im],.int .u32 a,.int .u32 v] w fun e w'=>e=.returned (.bool true)/\RefAt B b mb (setReg m rd (ld m.mem k 1)) vE vA vS vB w'/\Touch [b] w w':=by
 subst ek
 obtain⟨HT,HW,HS⟩:=mpre h hs hz 13 rd q1 q2 im
 have hk:k+1<=m.size:=by simp[lies]at hl;omega
 have HM:Hid (∀i,0<=m.mem i/\m.mem i<=255):=hm
 have HL0:Hid (0<=ld m.mem k 1):=(ld_bd m.mem hm k 1).1
 have HL1:Hid (ld m.mem k 1<256):=(ld_bd m.mem hm k 1).2
 have l0:=HL0.out
 have l1:=HL1.out
 clear h hs hm
 go_enter Tryz.func82,Tryz.ntmps82
 go_wp2_with (first|(go_at_call 51;refine(lies_any HW.out (k:Int) 1 a0 a1 dC dC hz2).mono ?_;rintro e w' ⟨rfl,rfl⟩)|(go_at_call 52;refine(load_1 HW.out k hk hz2 HM.out).mono ?_;rintro e w' ⟨rfl,rfl⟩)|(go_at_call 80;refine(set_any HW.out rd (ld m.mem k 1) rd0 rd1).mono ?_;rintro e w1 ⟨rfl,hat,hto⟩;have HA:Hid (RefAt B b mb (setReg m rd (ld m.mem k 1)) vE vA vS vB w1):=hat;have HB:Hid (Touch [b] w w1):=(HT.out.mono sP).trans hto;clear hat hto))
 exact X61
theorem mld14{B b mb:Nat}{m:M}{vE vA vS vB:Value}{w:World}(h:RefAt B b mb m vE vA vS vB w)(hs:SlotsAt b mb m vS w)(hz:0<m.size)(hz2:m.size<=512)(hc0:0<=m.cur.1)(hc1:m.cur.1<=4294967295)(hm:∀i,0<=m.mem i/\m.mem i<=255)(rd q1 q2 im:Int)(rd0:0<=rd)(rd1:rd<=31)(a v:Int)(a0:0<=a)(a1:a<=4294967295)(v0:0<=v)(v1:v<=4294967295)(k:Nat)(ek:a=k)(hal:(k:Int)%2=0)(hl:lies m k 2=true):
  Calls Tryz.prog 82 #[.pointer (some ⟨b,0,none⟩),.agg #[.int .i64 14,.int .i64 rd,.int .i64 q1,.int .i64 q2,.int .i32 im],.int .u32 a,.int .u32 v] w fun e w'=>e=.returned (.bool true)/\RefAt B b mb (setReg m rd (ld m.mem k 2)) vE vA vS vB w'/\Touch [b] w w':=by
 subst ek
 obtain⟨HT,HW,HS⟩:=mpre h hs hz 14 rd q1 q2 im
 have hk:k+2<=m.size:=by simp[lies]at hl;omega
 have HM:Hid (∀i,0<=m.mem i/\m.mem i<=255):=hm
 have HL0:Hid (0<=ld m.mem k 2):=(ld_bd m.mem hm k 2).1
 have HL1:Hid (ld m.mem k 2<65536):=(ld_bd m.mem hm k 2).2
 have l0:=HL0.out
 have l1:=HL1.out
 clear h hs hm
 go_enter Tryz.func82,Tryz.ntmps82
 go_wp2_with (first|(go_at_call 51;refine(lies_any HW.out (k:Int) 2 a0 a1 dC dC hz2).mono ?_;rintro e w' ⟨rfl,rfl⟩)|(go_at_call 52;refine(load_2 HW.out k hk hz2 HM.out).mono ?_;rintro e w' ⟨rfl,rfl⟩)|(go_at_call 80;refine(set_any HW.out rd (ld m.mem k 2) rd0 rd1).mono ?_;rintro e w1 ⟨rfl,hat,hto⟩;have HA:Hid (RefAt B b mb (setReg m rd (ld m.mem k 2)) vE vA vS vB w1):=hat;have HB:Hid (Touch [b] w w1):=(HT.out.mono sP).trans hto;clear hat hto))
 exact X61
theorem mst15{B b mb:Nat}{m:M}{vE vA vS vB:Value}{w:World}(h:RefAt B b mb m vE vA vS vB w)(hs:SlotsAt b mb m vS w)(hz:0<m.size)(hz2:m.size<=512)(hc0:0<=m.cur.1)(hc1:m.cur.1<=4294967295)(hm:∀i,0<=m.mem i/\m.mem i<=255)(rd q1 q2 im:Int)(rd0:0<=rd)(rd1:rd<=31)(a v:Int)(a0:0<=a)(a1:a<=4294967295)(v0:0<=v)(v1:v<=4294967295)(k:Nat)(ek:a=k)(hl:lies m k 1=true):
  Calls Tryz.prog 82 #[.pointer (some ⟨b,0,none⟩),.agg #[.int .i64 15,.int .i64 rd,.int .i64 q1,.int .i64 q2,.int .i32 im],.int .u32 a,.int .u32 v] w fun e w'=>e=.returned (.bool true)/\RefAt B b mb (wrote {m with mem:=st m.mem k 1 v } k 1) vE vA vS vB w'/\SlotsAt b mb (wrote {m with mem:=st m.mem k 1 v } k 1) vS w'/\Touch (b::mb::sblk vS) w w':=by
 subst ek
 obtain⟨HT,HW,HS⟩:=mpre h hs hz 15 rd q1 q2 im
 have hk:k+1<=m.size:=by simp[lies]at hl;omega
 have HT3:Hid (Touch [mb] w (((w.alloc (.cells #[.int .i64 15,.int .i64 rd,.int .i64 q1,.int .i64 q2,.int .i32 im] 61)).alloc (.cells #[.int .u32 1,.int .u32 2,.int .u32 4,.int .u32 1,.int .u32 2,.int .u32 1,.int .u32 2,.int .u32 4] 22)).setCell ⟨mb,k,none⟩ (.int .u8 (v%256)))):=((HT.out.mono sP:Touch [mb] w ((w.alloc (.cells #[.int .i64 15,.int .i64 rd,.int .i64 q1,.int .i64 q2,.int .i32 im] 61)).alloc (.cells #[.int .u32 1,.int .u32 2,.int .u32 4,.int .u32 1,.int .u32 2,.int .u32 1,.int .u32 2,.int .u32 4] 22))).setCell sP _)
 have HW3:Hid (RefAt B b mb {m with mem:=st m.mem k 1 v } vE vA vS vB (((w.alloc (.cells #[.int .i64 15,.int .i64 rd,.int .i64 q1,.int .i64 q2,.int .i32 im] 61)).alloc (.cells #[.int .u32 1,.int .u32 2,.int .u32 4,.int .u32 1,.int .u32 2,.int .u32 1,.int .u32 2,.int .u32 4] 22)).setCell ⟨mb,k,none⟩ (.int .u8 (v%256)))):=((HW.out.byte k X63 (v%256))).memEq (m:=m) (st_1 m.mem k v)
 have HS3:Hid (SlotsAt b mb {m with mem:=st m.mem k 1 v } vS (((w.alloc (.cells #[.int .i64 15,.int .i64 rd,.int .i64 q1,.int .i64 q2,.int .i32 im] 61)).alloc (.cells #[.int .u32 1,.int .u32 2,.int .u32 4,.int .u32 1,.int .u32 2,.int .u32 1,.int .u32 2,.int .u32 4] 22)).setCell ⟨mb,k,none⟩ (.int .u8 (v%256)))):=hs.other (HT3.out.mono sP) rfl rfl
 have cb0:=HW.out.bytes k oM
 have fb0:=HW.out.freem k
 have hdd:=HW.out.data
 clear h hs hm
 go_enter Tryz.func82,Tryz.ntmps82
 go_wp2_with (first|(go_at_call 51;refine(lies_any HW.out (k:Int) 1 a0 a1 dC dC hz2).mono ?_;rintro e w' ⟨rfl,rfl⟩))
 refine wp_loop_rounds 2 ?_
 rw[rounds_succ]
 go_wp2_with fail
 rw[rounds_succ]
 go_wp2_with fail
 refine(wrote_any HW3.out HS3.out hz hc0 hc1 k 1 a0 dC oM).mono ?_
 rintro e w1 ⟨rfl,hat,hsl,hto⟩
 have HA:Hid (RefAt B b mb (wrote {m with mem:=st m.mem k 1 v } k 1) vE vA vS vB w1):=hat
 have HB:Hid (SlotsAt b mb (wrote {m with mem:=st m.mem k 1 v } k 1) vS w1):=hsl
 exact X60
theorem mst16{B b mb:Nat}{m:M}{vE vA vS vB:Value}{w:World}(h:RefAt B b mb m vE vA vS vB w)(hs:SlotsAt b mb m vS w)(hz:0<m.size)(hz2:m.size<=512)(hc0:0<=m.cur.1)(hc1:m.cur.1<=4294967295)(hm:∀i,0<=m.mem i/\m.mem i<=255)(rd q1 q2 im:Int)(rd0:0<=rd)(rd1:rd<=31)(a v:Int)(a0:0<=a)(a1:a<=4294967295)(v0:0<=v)(v1:v<=4294967295)(k:Nat)(ek:a=k)(hal:(k:Int)%2=0)(hl:lies m k 2=true):
  Calls Tryz.prog 82 #[.pointer (some ⟨b,0,none⟩),.agg #[.int .i64 16,.int .i64 rd,.int .i64 q1,.int .i64 q2,.int .i32 im],.int .u32 a,.int .u32 v] w fun e w'=>e=.returned (.bool true)/\RefAt B b mb (wrote {m with mem:=st m.mem k 2 v } k 2) vE vA vS vB w'/\SlotsAt b mb (wrote {m with mem:=st m.mem k 2 v } k 2) vS w'/\Touch (b::mb::sblk vS) w w':=by
 subst ek
 obtain⟨HT,HW,HS⟩:=mpre h hs hz 16 rd q1 q2 im
 have hk:k+2<=m.size:=by simp[lies]at hl;omega
 have HT3:Hid (Touch [mb] w ((((w.alloc (.cells #[.int .i64 16,.int .i64 rd,.int .i64 q1,.int .i64 q2,.int .i32 im] 61)).alloc (.cells #[.int .u32 1,.int .u32 2,.int .u32 4,.int .u32 1,.int .u32 2,.int .u32 1,.int .u32 2,.int .u32 4] 22)).setCell ⟨mb,k,none⟩ (.int .u8 (v%256))).setCell ⟨mb,(k+1),none⟩ (.int .u8 (v/256%256)))):=(((HT.out.mono sP:Touch [mb] w ((w.alloc (.cells #[.int .i64 16,.int .i64 rd,.int .i64 q1,.int .i64 q2,.int .i32 im] 61)).alloc (.cells #[.int .u32 1,.int .u32 2,.int .u32 4,.int .u32 1,.int .u32 2,.int .u32 1,.int .u32 2,.int .u32 4] 22))).setCell sP _).setCell sP _)
 have HW3:Hid (RefAt B b mb {m with mem:=st m.mem k 2 v } vE vA vS vB ((((w.alloc (.cells #[.int .i64 16,.int .i64 rd,.int .i64 q1,.int .i64 q2,.int .i32 im] 61)).alloc (.cells #[.int .u32 1,.int .u32 2,.int .u32 4,.int .u32 1,.int .u32 2,.int .u32 1,.int .u32 2,.int .u32 4] 22)).setCell ⟨mb,k,none⟩ (.int .u8 (v%256))).setCell ⟨mb,(k+1),none⟩ (.int .u8 (v/256%256)))):=(((HW.out.byte k X63 (v%256)).byte (k+1) X63 (v/256%256))).memEq (m:=m) (st_2 m.mem k v)
 have HS3:Hid (SlotsAt b mb {m with mem:=st m.mem k 2 v } vS ((((w.alloc (.cells #[.int .i64 16,.int .i64 rd,.int .i64 q1,.int .i64 q2,.int .i32 im] 61)).alloc (.cells #[.int .u32 1,.int .u32 2,.int .u32 4,.int .u32 1,.int .u32 2,.int .u32 1,.int .u32 2,.int .u32 4] 22)).setCell ⟨mb,k,none⟩ (.int .u8 (v%256))).setCell ⟨mb,(k+1),none⟩ (.int .u8 (v/256%256)))):=hs.other (HT3.out.mono sP) rfl rfl
 have cb0:=HW.out.bytes k oM
 have fb0:=HW.out.freem k
 have cb1:=HW.out.bytes (k+1) oM
 have fb1:=HW.out.freem (k+1)
 have hdd:=HW.out.data
 clear h hs hm
 go_enter Tryz.func82,Tryz.ntmps82
 go_wp2_with (first|(go_at_call 51;refine(lies_any HW.out (k:Int) 2 a0 a1 dC dC hz2).mono ?_;rintro e w' ⟨rfl,rfl⟩))
 refine wp_loop_rounds 3 ?_
 rw[rounds_succ]
 go_wp2_with fail
 rw[rounds_succ]
 go_wp2_with fail
 rw[rounds_succ]
 go_wp2_with fail
 refine(wrote_any HW3.out HS3.out hz hc0 hc1 k 2 a0 dC oM).mono ?_
 rintro e w1 ⟨rfl,hat,hsl,hto⟩
 have HA:Hid (RefAt B b mb (wrote {m with mem:=st m.mem k 2 v } k 2) vE vA vS vB w1):=hat
 have HB:Hid (SlotsAt b mb (wrote {m with mem:=st m.mem k 2 v } k 2) vS w1):=hsl
 exact X60
theorem mst17{B b mb:Nat}{m:M}{vE vA vS vB:Value}{w:World}(h:RefAt B b mb m vE vA vS vB w)(hs:SlotsAt b mb m vS w)(hz:0<m.size)(hz2:m.size<=512)(hc0:0<=m.cur.1)(hc1:m.cur.1<=4294967295)(hm:∀i,0<=m.mem i/\m.mem i<=255)(rd q1 q2 im:Int)(rd0:0<=rd)(rd1:rd<=31)(a v:Int)(a0:0<=a)(a1:a<=4294967295)(v0:0<=v)(v1:v<=4294967295)(k:Nat)(ek:a=k)(hal:(k:Int)%4=0)(hl:lies m k 4=true):
  Calls Tryz.prog 82 #[.pointer (some ⟨b,0,none⟩),.agg #[.int .i64 17,.int .i64 rd,.int .i64 q1,.int .i64 q2,.int .i32 im],.int .u32 a,.int .u32 v] w fun e w'=>e=.returned (.bool true)/\RefAt B b mb (wrote {m with mem:=st m.mem k 4 v } k 4) vE vA vS vB w'/\SlotsAt b mb (wrote {m with mem:=st m.mem k 4 v } k 4) vS w'/\Touch (b::mb::sblk vS) w w':=by
 subst ek
 obtain⟨HT,HW,HS⟩:=mpre h hs hz 17 rd q1 q2 im
 have hk:k+4<=m.size:=by simp[lies]at hl;omega
 have HT3:Hid (Touch [mb] w ((((((w.alloc (.cells #[.int .i64 17,.int .i64 rd,.int .i64 q1,.int .i64 q2,.int .i32 im] 61)).alloc (.cells #[.int .u32 1,.int .u32 2,.int .u32 4,.int .u32 1,.int .u32 2,.int .u32 1,.int .u32 2,.int .u32 4] 22)).setCell ⟨mb,k,none⟩ (.int .u8 (v%256))).setCell ⟨mb,(k+1),none⟩ (.int .u8 (v/256%256))).setCell ⟨mb,(k+2),none⟩ (.int .u8 (v/65536%256))).setCell ⟨mb,(k+3),none⟩ (.int .u8 (v/16777216)))):=(((((HT.out.mono sP:Touch [mb] w ((w.alloc (.cells #[.int .i64 17,.int .i64 rd,.int .i64 q1,.int .i64 q2,.int .i32 im] 61)).alloc (.cells #[.int .u32 1,.int .u32 2,.int .u32 4,.int .u32 1,.int .u32 2,.int .u32 1,.int .u32 2,.int .u32 4] 22))).setCell sP _).setCell sP _).setCell sP _).setCell sP _)
 have HW3:Hid (RefAt B b mb {m with mem:=st m.mem k 4 v } vE vA vS vB ((((((w.alloc (.cells #[.int .i64 17,.int .i64 rd,.int .i64 q1,.int .i64 q2,.int .i32 im] 61)).alloc (.cells #[.int .u32 1,.int .u32 2,.int .u32 4,.int .u32 1,.int .u32 2,.int .u32 1,.int .u32 2,.int .u32 4] 22)).setCell ⟨mb,k,none⟩ (.int .u8 (v%256))).setCell ⟨mb,(k+1),none⟩ (.int .u8 (v/256%256))).setCell ⟨mb,(k+2),none⟩ (.int .u8 (v/65536%256))).setCell ⟨mb,(k+3),none⟩ (.int .u8 (v/16777216)))):=(((((HW.out.byte k X63 (v%256)).byte (k+1) X63 (v/256%256)).byte (k+2) X63 (v/65536%256)).byte (k+3) X63 (v/16777216))).memEq (m:=m) (st_4 m.mem k v v0 v1)
 have HS3:Hid (SlotsAt b mb {m with mem:=st m.mem k 4 v } vS ((((((w.alloc (.cells #[.int .i64 17,.int .i64 rd,.int .i64 q1,.int .i64 q2,.int .i32 im] 61)).alloc (.cells #[.int .u32 1,.int .u32 2,.int .u32 4,.int .u32 1,.int .u32 2,.int .u32 1,.int .u32 2,.int .u32 4] 22)).setCell ⟨mb,k,none⟩ (.int .u8 (v%256))).setCell ⟨mb,(k+1),none⟩ (.int .u8 (v/256%256))).setCell ⟨mb,(k+2),none⟩ (.int .u8 (v/65536%256))).setCell ⟨mb,(k+3),none⟩ (.int .u8 (v/16777216)))):=hs.other (HT3.out.mono sP) rfl rfl
 have cb0:=HW.out.bytes k oM
 have fb0:=HW.out.freem k
 have cb1:=HW.out.bytes (k+1) oM
 have fb1:=HW.out.freem (k+1)
 have cb2:=HW.out.bytes (k+2) oM
 have fb2:=HW.out.freem (k+2)
 have cb3:=HW.out.bytes (k+3) oM
 have fb3:=HW.out.freem (k+3)
 have hdd:=HW.out.data
 clear h hs hm
 go_enter Tryz.func82,Tryz.ntmps82
 go_wp2_with (first|(go_at_call 51;refine(lies_any HW.out (k:Int) 4 a0 a1 dC dC hz2).mono ?_;rintro e w' ⟨rfl,rfl⟩))
 refine wp_loop_rounds 5 ?_
 rw[rounds_succ]
 go_wp2_with fail
 rw[rounds_succ]
 go_wp2_with fail
 rw[rounds_succ]
 go_wp2_with fail
 rw[rounds_succ]
 go_wp2_with fail
 rw[rounds_succ]
 go_wp2_with fail
 refine(wrote_any HW3.out HS3.out hz hc0 hc1 k 4 a0 dC oM).mono ?_
 rintro e w1 ⟨rfl,hat,hsl,hto⟩
 have HA:Hid (RefAt B b mb (wrote {m with mem:=st m.mem k 4 v } k 4) vE vA vS vB w1):=hat
 have HB:Hid (SlotsAt b mb (wrote {m with mem:=st m.mem k 4 v } k 4) vS w1):=hsl
 exact X60
end ref
namespace ref
open ChangeShapes WideShapes ChangeAt RowKit nums dnums mach
def memd (m:M) (op rd a b:Int):M × Bool:=
 let n:=width op
 if a%n≠0 then(stop m (if 15<=op then 7 else 5),false)else
 if !lies m a n then(stop m (if 15<=op then 8 else 6),false)else
 if 15<=op then(wrote {m with mem:=st m.mem a.toNat n b } a n,true)else
 (setReg m rd (if op<12 then sext (ld m.mem a.toNat n) n else ld m.mem a.toNat n),true)
theorem memop_d(m:M)(op rd a b:Int):memop m op rd a b=if(memd m op rd a b).2 then next (memd m op rd a b).1 else(memd m op rd a b).1:=by
 unfold memop memd
 by_cases h1:a%(width op)≠0
 ·simp[h1]
 ·by_cases h2:(!lies m a (width op))=true
  ·simp only[h1,h2,if_true,if_false,ite_false,ite_true,Bool.false_eq_true]
  ·by_cases h3:15<=op
   ·exact X62
   ·exact X62
theorem sext_1(v:Int)(h:0<=v/\v<256^1):sext v 1=sx8 v%4294967296:=by
 simp at h
 unfold sext sx8
 by_cases k:128<=v
 ·simp[k]
 ·simp[k];omega
theorem sext_2(v:Int)(h:0<=v/\v<256^2):sext v 2=sx16 v%4294967296:=by
 simp at h
 unfold sext sx16
 by_cases k:32768<=v
 ·simp[k]
 ·simp[k];omega
theorem setReg_ns(m:M)(r v:Int):(setReg m r v).nslots=m.nslots:=by unfold setReg;by_cases e:r=0<;>simp[e]
theorem setReg_sl(m:M)(r v:Int):(setReg m r v).slots=m.slots:=by unfold setReg;by_cases e:r=0<;>simp[e]
def MemPost (B b mb:Nat) (vE vA vS vB:Value) (r:M × Bool) (w:World) (e:Ending) (w':World):Prop:=
 e=.returned (.bool r.2)/\RefAt B b mb r.1 vE vA vS vB w'/\SlotsAt b mb r.1 vS w'/\Touch (b::mb::sblk vS) w w'
theorem post_stop{B b mb:Nat}{m:M}{vE vA vS vB:Value}{w:World}(h:RefAt B b mb m vE vA vS vB w)(hs:SlotsAt b mb m vS w)(k:Int)(e:Ending)(w':World)(h1:e=.returned (.bool false))(h2:RefAt B b mb (stop m k) vE vA vS vB w')(h3:Touch [b] w w'):MemPost B b mb vE vA vS vB (stop m k,false) w e w':=
 ⟨h1,h2,hs.other (h3.mono sP) rfl rfl,h3.mono sP⟩
theorem post_reg{B b mb:Nat}{m:M}{vE vA vS vB:Value}{w:World}(h:RefAt B b mb m vE vA vS vB w)(hs:SlotsAt b mb m vS w)(r v:Int)(e:Ending)(w':World)(h1:e=.returned (.bool true))(h2:RefAt B b mb (setReg m r v) vE vA vS vB w')(h3:Touch [b] w w'):MemPost B b mb vE vA vS vB (setReg m r v,true) w e w':=
 ⟨h1,h2,hs.other (h3.mono sP) (setReg_ns _ _ _) (setReg_sl _ _ _),h3.mono sP⟩
theorem mem_10{B b mb:Nat}{m:M}{vE vA vS vB:Value}{w:World}(h:RefAt B b mb m vE vA vS vB w)(hs:SlotsAt b mb m vS w)(hz:0<m.size)(hz2:m.size<=512)(hc0:0<=m.cur.1)(hc1:m.cur.1<=4294967295)(hm:∀i,0<=m.mem i/\m.mem i<=255)(rd q1 q2 im:Int)(rd0:0<=rd)(rd1:rd<=31)(a v:Int)(a0:0<=a)(a1:a<=4294967295)(v0:0<=v)(v1:v<=4294967295):
  Calls Tryz.prog 82 #[.pointer (some ⟨b,0,none⟩),.agg #[.int .i64 10,.int .i64 rd,.int .i64 q1,.int .i64 q2,.int .i32 im],.int .u32 a,.int .u32 v] w (MemPost B b mb vE vA vS vB (memd m 10 rd a v) w):=by
 have hw:width 10=1:=by decide
 by_cases hl:lies m a 1=true
 rotate_left
 ·have hl':lies m a 1=false:=by simpa using hl
  rw[show memd m 10 rd a v=(stop m 6,false)from by simp[memd,hw,hl']]
  exact(mlie10 h hs hz hz2 hc0 hc1 hm rd q1 q2 im rd0 rd1 a v a0 a1 v0 v1 hl').mono (fun e w' ⟨h1,h2,h3⟩=>post_stop h hs _ e w' h1 h2 h3)
 obtain⟨k,rfl⟩:∃k:Nat,a=k:=⟨a.toNat,by omega⟩
 rw[show memd m 10 rd k v=(setReg m rd (sx8 (ld m.mem k 1)%4294967296),true)from by simp[memd,hw,hl,sext_1 _ (ld_bd m.mem hm k 1)]]
 exact(mld10 h hs hz hz2 hc0 hc1 hm rd q1 q2 im rd0 rd1 k v a0 a1 v0 v1 k rfl hl).mono (fun e w' ⟨h1,h2,h3⟩=>post_reg h hs _ _ e w' h1 h2 h3)
theorem mem_11{B b mb:Nat}{m:M}{vE vA vS vB:Value}{w:World}(h:RefAt B b mb m vE vA vS vB w)(hs:SlotsAt b mb m vS w)(hz:0<m.size)(hz2:m.size<=512)(hc0:0<=m.cur.1)(hc1:m.cur.1<=4294967295)(hm:∀i,0<=m.mem i/\m.mem i<=255)(rd q1 q2 im:Int)(rd0:0<=rd)(rd1:rd<=31)(a v:Int)(a0:0<=a)(a1:a<=4294967295)(v0:0<=v)(v1:v<=4294967295):
  Calls Tryz.prog 82 #[.pointer (some ⟨b,0,none⟩),.agg #[.int .i64 11,.int .i64 rd,.int .i64 q1,.int .i64 q2,.int .i32 im],.int .u32 a,.int .u32 v] w (MemPost B b mb vE vA vS vB (memd m 11 rd a v) w):=by
 have hw:width 11=2:=by decide
 by_cases hal:a%2=0
 rotate_left
 ·rw[show memd m 11 rd a v=(stop m 5,false)from by simp[memd,hw,hal]]
  exact(mal11 h hs hz hz2 hc0 hc1 hm rd q1 q2 im rd0 rd1 a v a0 a1 v0 v1 hal).mono (fun e w' ⟨h1,h2,h3⟩=>post_stop h hs _ e w' h1 h2 h3)
 by_cases hl:lies m a 2=true
 rotate_left
 ·have hl':lies m a 2=false:=by simpa using hl
  rw[show memd m 11 rd a v=(stop m 6,false)from by simp[memd,hw,hal,hl']]
  exact(mlie11 h hs hz hz2 hc0 hc1 hm rd q1 q2 im rd0 rd1 a v a0 a1 v0 v1 hal hl').mono (fun e w' ⟨h1,h2,h3⟩=>post_stop h hs _ e w' h1 h2 h3)
 obtain⟨k,rfl⟩:∃k:Nat,a=k:=⟨a.toNat,by omega⟩
 rw[show memd m 11 rd k v=(setReg m rd (sx16 (ld m.mem k 2)%4294967296),true)from by simp[memd,hw,hal,hl,sext_2 _ (ld_bd m.mem hm k 2)]]
 exact(mld11 h hs hz hz2 hc0 hc1 hm rd q1 q2 im rd0 rd1 k v a0 a1 v0 v1 k rfl hal hl).mono (fun e w' ⟨h1,h2,h3⟩=>post_reg h hs _ _ e w' h1 h2 h3)
theorem mem_12{B b mb:Nat}{m:M}{vE vA vS vB:Value}{w:World}(h:RefAt B b mb m vE vA vS vB w)(hs:SlotsAt b mb m vS w)(hz:0<m.size)(hz2:m.size<=512)(hc0:0<=m.cur.1)(hc1:m.cur.1<=4294967295)(hm:∀i,0<=m.mem i/\m.mem i<=255)(rd q1 q2 im:Int)(rd0:0<=rd)(rd1:rd<=31)(a v:Int)(a0:0<=a)(a1:a<=4294967295)(v0:0<=v)(v1:v<=4294967295):
  Calls Tryz.prog 82 #[.pointer (some ⟨b,0,none⟩),.agg #[.int .i64 12,.int .i64 rd,.int .i64 q1,.int .i64 q2,.int .i32 im],.int .u32 a,.int .u32 v] w (MemPost B b mb vE vA vS vB (memd m 12 rd a v) w):=by
 have hw:width 12=4:=by decide
 by_cases hal:a%4=0
 rotate_left
 ·rw[show memd m 12 rd a v=(stop m 5,false)from by simp[memd,hw,hal]]
  exact(mal12 h hs hz hz2 hc0 hc1 hm rd q1 q2 im rd0 rd1 a v a0 a1 v0 v1 hal).mono (fun e w' ⟨h1,h2,h3⟩=>post_stop h hs _ e w' h1 h2 h3)
 by_cases hl:lies m a 4=true
 rotate_left
 ·have hl':lies m a 4=false:=by simpa using hl
  rw[show memd m 12 rd a v=(stop m 6,false)from by simp[memd,hw,hal,hl']]
  exact(mlie12 h hs hz hz2 hc0 hc1 hm rd q1 q2 im rd0 rd1 a v a0 a1 v0 v1 hal hl').mono (fun e w' ⟨h1,h2,h3⟩=>post_stop h hs _ e w' h1 h2 h3)
 obtain⟨k,rfl⟩:∃k:Nat,a=k:=⟨a.toNat,by omega⟩
 rw[show memd m 12 rd k v=(setReg m rd (ld m.mem k 4),true)from by simp[memd,hw,hal,hl]]
 exact(mld12 h hs hz hz2 hc0 hc1 hm rd q1 q2 im rd0 rd1 k v a0 a1 v0 v1 k rfl hal hl).mono (fun e w' ⟨h1,h2,h3⟩=>post_reg h hs _ _ e w' h1 h2 h3)
theorem mem_13{B b mb:Nat}{m:M}{vE vA vS vB:Value}{w:World}(h:RefAt B b mb m vE vA vS vB w)(hs:SlotsAt b mb m vS w)(hz:0<m.size)(hz2:m.size<=512)(hc0:0<=m.cur.1)(hc1:m.cur.1<=4294967295)(hm:∀i,0<=m.mem i/\m.mem i<=255)(rd q1 q2 im:Int)(rd0:0<=rd)(rd1:rd<=31)(a v:Int)(a0:0<=a)(a1:a<=4294967295)(v0:0<=v)(v1:v<=4294967295):
  Calls Tryz.prog 82 #[.pointer (some ⟨b,0,none⟩),.agg #[.int .i64 13,.int .i64 rd,.int .i64 q1,.int .i64 q2,.int .i32 im],.int .u32 a,.int .u32 v] w (MemPost B b mb vE vA vS vB (memd m 13 rd a v) w):=by
 have hw:width 13=1:=by decide
 by_cases hl:lies m a 1=true
 rotate_left
 ·have hl':lies m a 1=false:=by simpa using hl
  rw[show memd m 13 rd a v=(stop m 6,false)from by simp[memd,hw,hl']]
  exact(mlie13 h hs hz hz2 hc0 hc1 hm rd q1 q2 im rd0 rd1 a v a0 a1 v0 v1 hl').mono (fun e w' ⟨h1,h2,h3⟩=>post_stop h hs _ e w' h1 h2 h3)
 obtain⟨k,rfl⟩:∃k:Nat,a=k:=⟨a.toNat,by omega⟩
 rw[show memd m 13 rd k v=(setReg m rd (ld m.mem k 1),true)from by simp[memd,hw,hl]]
 exact(mld13 h hs hz hz2 hc0 hc1 hm rd q1 q2 im rd0 rd1 k v a0 a1 v0 v1 k rfl hl).mono (fun e w' ⟨h1,h2,h3⟩=>post_reg h hs _ _ e w' h1 h2 h3)
theorem mem_14{B b mb:Nat}{m:M}{vE vA vS vB:Value}{w:World}(h:RefAt B b mb m vE vA vS vB w)(hs:SlotsAt b mb m vS w)(hz:0<m.size)(hz2:m.size<=512)(hc0:0<=m.cur.1)(hc1:m.cur.1<=4294967295)(hm:∀i,0<=m.mem i/\m.mem i<=255)(rd q1 q2 im:Int)(rd0:0<=rd)(rd1:rd<=31)(a v:Int)(a0:0<=a)(a1:a<=4294967295)(v0:0<=v)(v1:v<=4294967295):
  Calls Tryz.prog 82 #[.pointer (some ⟨b,0,none⟩),.agg #[.int .i64 14,.int .i64 rd,.int .i64 q1,.int .i64 q2,.int .i32 im],.int .u32 a,.int .u32 v] w (MemPost B b mb vE vA vS vB (memd m 14 rd a v) w):=by
 have hw:width 14=2:=by decide
 by_cases hal:a%2=0
 rotate_left
 ·rw[show memd m 14 rd a v=(stop m 5,false)from by simp[memd,hw,hal]]
  exact(mal14 h hs hz hz2 hc0 hc1 hm rd q1 q2 im rd0 rd1 a v a0 a1 v0 v1 hal).mono (fun e w' ⟨h1,h2,h3⟩=>post_stop h hs _ e w' h1 h2 h3)
 by_cases hl:lies m a 2=true
 rotate_left
 ·have hl':lies m a 2=false:=by simpa using hl
  rw[show memd m 14 rd a v=(stop m 6,false)from by simp[memd,hw,hal,hl']]
  exact(mlie14 h hs hz hz2 hc0 hc1 hm rd q1 q2 im rd0 rd1 a v a0 a1 v0 v1 hal hl').mono (fun e w' ⟨h1,h2,h3⟩=>post_stop h hs _ e w' h1 h2 h3)
 obtain⟨k,rfl⟩:∃k:Nat,a=k:=⟨a.toNat,by omega⟩
 rw[show memd m 14 rd k v=(setReg m rd (ld m.mem k 2),true)from by simp[memd,hw,hal,hl]]
 exact(mld14 h hs hz hz2 hc0 hc1 hm rd q1 q2 im rd0 rd1 k v a0 a1 v0 v1 k rfl hal hl).mono (fun e w' ⟨h1,h2,h3⟩=>post_reg h hs _ _ e w' h1 h2 h3)
theorem mem_15{B b mb:Nat}{m:M}{vE vA vS vB:Value}{w:World}(h:RefAt B b mb m vE vA vS vB w)(hs:SlotsAt b mb m vS w)(hz:0<m.size)(hz2:m.size<=512)(hc0:0<=m.cur.1)(hc1:m.cur.1<=4294967295)(hm:∀i,0<=m.mem i/\m.mem i<=255)(rd q1 q2 im:Int)(rd0:0<=rd)(rd1:rd<=31)(a v:Int)(a0:0<=a)(a1:a<=4294967295)(v0:0<=v)(v1:v<=4294967295):
  Calls Tryz.prog 82 #[.pointer (some ⟨b,0,none⟩),.agg #[.int .i64 15,.int .i64 rd,.int .i64 q1,.int .i64 q2,.int .i32 im],.int .u32 a,.int .u32 v] w (MemPost B b mb vE vA vS vB (memd m 15 rd a v) w):=by
 have hw:width 15=1:=by decide
 by_cases hl:lies m a 1=true
 rotate_left
 ·have hl':lies m a 1=false:=by simpa using hl
  rw[show memd m 15 rd a v=(stop m 8,false)from by simp[memd,hw,hl']]
  exact(mlie15 h hs hz hz2 hc0 hc1 hm rd q1 q2 im rd0 rd1 a v a0 a1 v0 v1 hl').mono (fun e w' ⟨h1,h2,h3⟩=>post_stop h hs _ e w' h1 h2 h3)
 obtain⟨k,rfl⟩:∃k:Nat,a=k:=⟨a.toNat,by omega⟩
 rw[show memd m 15 rd k v=(wrote {m with mem:=st m.mem k 1 v } k 1,true)from by simp[memd,hw,hl]]
 exact(mst15 h hs hz hz2 hc0 hc1 hm rd q1 q2 im rd0 rd1 k v a0 a1 v0 v1 k rfl hl).mono (fun e w' ⟨h1,h2,h3,h4⟩=>⟨h1,h2,h3,h4⟩)
theorem mem_16{B b mb:Nat}{m:M}{vE vA vS vB:Value}{w:World}(h:RefAt B b mb m vE vA vS vB w)(hs:SlotsAt b mb m vS w)(hz:0<m.size)(hz2:m.size<=512)(hc0:0<=m.cur.1)(hc1:m.cur.1<=4294967295)(hm:∀i,0<=m.mem i/\m.mem i<=255)(rd q1 q2 im:Int)(rd0:0<=rd)(rd1:rd<=31)(a v:Int)(a0:0<=a)(a1:a<=4294967295)(v0:0<=v)(v1:v<=4294967295):
  Calls Tryz.prog 82 #[.pointer (some ⟨b,0,none⟩),.agg #[.int .i64 16,.int .i64 rd,.int .i64 q1,.int .i64 q2,.int .i32 im],.int .u32 a,.int .u32 v] w (MemPost B b mb vE vA vS vB (memd m 16 rd a v) w):=by
 have hw:width 16=2:=by decide
 by_cases hal:a%2=0
 rotate_left
 ·rw[show memd m 16 rd a v=(stop m 7,false)from by simp[memd,hw,hal]]
  exact(mal16 h hs hz hz2 hc0 hc1 hm rd q1 q2 im rd0 rd1 a v a0 a1 v0 v1 hal).mono (fun e w' ⟨h1,h2,h3⟩=>post_stop h hs _ e w' h1 h2 h3)
 by_cases hl:lies m a 2=true
 rotate_left
 ·have hl':lies m a 2=false:=by simpa using hl
  rw[show memd m 16 rd a v=(stop m 8,false)from by simp[memd,hw,hal,hl']]
  exact(mlie16 h hs hz hz2 hc0 hc1 hm rd q1 q2 im rd0 rd1 a v a0 a1 v0 v1 hal hl').mono (fun e w' ⟨h1,h2,h3⟩=>post_stop h hs _ e w' h1 h2 h3)
 obtain⟨k,rfl⟩:∃k:Nat,a=k:=⟨a.toNat,by omega⟩
 rw[show memd m 16 rd k v=(wrote {m with mem:=st m.mem k 2 v } k 2,true)from by simp[memd,hw,hal,hl]]
 exact(mst16 h hs hz hz2 hc0 hc1 hm rd q1 q2 im rd0 rd1 k v a0 a1 v0 v1 k rfl hal hl).mono (fun e w' ⟨h1,h2,h3,h4⟩=>⟨h1,h2,h3,h4⟩)
theorem mem_17{B b mb:Nat}{m:M}{vE vA vS vB:Value}{w:World}(h:RefAt B b mb m vE vA vS vB w)(hs:SlotsAt b mb m vS w)(hz:0<m.size)(hz2:m.size<=512)(hc0:0<=m.cur.1)(hc1:m.cur.1<=4294967295)(hm:∀i,0<=m.mem i/\m.mem i<=255)(rd q1 q2 im:Int)(rd0:0<=rd)(rd1:rd<=31)(a v:Int)(a0:0<=a)(a1:a<=4294967295)(v0:0<=v)(v1:v<=4294967295):
  Calls Tryz.prog 82 #[.pointer (some ⟨b,0,none⟩),.agg #[.int .i64 17,.int .i64 rd,.int .i64 q1,.int .i64 q2,.int .i32 im],.int .u32 a,.int .u32 v] w (MemPost B b mb vE vA vS vB (memd m 17 rd a v) w):=by
 have hw:width 17=4:=by decide
 by_cases hal:a%4=0
 rotate_left
 ·rw[show memd m 17 rd a v=(stop m 7,false)from by simp[memd,hw,hal]]
  exact(mal17 h hs hz hz2 hc0 hc1 hm rd q1 q2 im rd0 rd1 a v a0 a1 v0 v1 hal).mono (fun e w' ⟨h1,h2,h3⟩=>post_stop h hs _ e w' h1 h2 h3)
 by_cases hl:lies m a 4=true
 rotate_left
 ·have hl':lies m a 4=false:=by simpa using hl
  rw[show memd m 17 rd a v=(stop m 8,false)from by simp[memd,hw,hal,hl']]
  exact(mlie17 h hs hz hz2 hc0 hc1 hm rd q1 q2 im rd0 rd1 a v a0 a1 v0 v1 hal hl').mono (fun e w' ⟨h1,h2,h3⟩=>post_stop h hs _ e w' h1 h2 h3)
 obtain⟨k,rfl⟩:∃k:Nat,a=k:=⟨a.toNat,by omega⟩
 rw[show memd m 17 rd k v=(wrote {m with mem:=st m.mem k 4 v } k 4,true)from by simp[memd,hw,hal,hl]]
 exact(mst17 h hs hz hz2 hc0 hc1 hm rd q1 q2 im rd0 rd1 k v a0 a1 v0 v1 k rfl hal hl).mono (fun e w' ⟨h1,h2,h3,h4⟩=>⟨h1,h2,h3,h4⟩)
theorem mem_any{B b mb:Nat}{m:M}{vE vA vS vB:Value}{w:World}(h:RefAt B b mb m vE vA vS vB w)(hs:SlotsAt b mb m vS w)(hz:0<m.size)(hz2:m.size<=512)(hc0:0<=m.cur.1)(hc1:m.cur.1<=4294967295)(hm:∀i,0<=m.mem i/\m.mem i<=255)(rd q1 q2 im:Int)(rd0:0<=rd)(rd1:rd<=31)(a v:Int)(a0:0<=a)(a1:a<=4294967295)(v0:0<=v)(v1:v<=4294967295)(op:Int)(o0:10<=op)(o1:op<=17):
  Calls Tryz.prog 82 #[.pointer (some ⟨b,0,none⟩),.agg #[.int .i64 op,.int .i64 rd,.int .i64 q1,.int .i64 q2,.int .i32 im],.int .u32 a,.int .u32 v] w (MemPost B b mb vE vA vS vB (memd m op rd a v) w):=by
 have:op=10\/op=11\/op=12\/op=13\/op=14\/op=15\/op=16\/op=17:=by omega
 rcases this with rfl|rfl|rfl|rfl|rfl|rfl|rfl|rfl
 ·exact mem_10 h hs hz hz2 hc0 hc1 hm rd q1 q2 im rd0 rd1 a v a0 a1 v0 v1
 ·exact mem_11 h hs hz hz2 hc0 hc1 hm rd q1 q2 im rd0 rd1 a v a0 a1 v0 v1
 ·exact mem_12 h hs hz hz2 hc0 hc1 hm rd q1 q2 im rd0 rd1 a v a0 a1 v0 v1
 ·exact mem_13 h hs hz hz2 hc0 hc1 hm rd q1 q2 im rd0 rd1 a v a0 a1 v0 v1
 ·exact mem_14 h hs hz hz2 hc0 hc1 hm rd q1 q2 im rd0 rd1 a v a0 a1 v0 v1
 ·exact mem_15 h hs hz hz2 hc0 hc1 hm rd q1 q2 im rd0 rd1 a v a0 a1 v0 v1
 ·exact mem_16 h hs hz hz2 hc0 hc1 hm rd q1 q2 im rd0 rd1 a v a0 a1 v0 v1
 ·exact mem_17 h hs hz hz2 hc0 hc1 hm rd q1 q2 im rd0 rd1 a v a0 a1 v0 v1
end ref
end Go.Proofs.YtjikimpejlmdiaaGreatDoor

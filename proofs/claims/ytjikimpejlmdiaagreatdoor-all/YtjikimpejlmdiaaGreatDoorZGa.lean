import Derived.WalkKit
import Derived.Laws.BitsAllLaws
import Derived.Laws.Bits64
set_option maxHeartbeats 4000000
set_option linter.unusedVariables false
set_option linter.unusedSimpArgs false
namespace Go.Proofs.YtjikimpejlmdiaaGreatDoor
theorem X10{p:Prop}(h:p:=by
 by_cases e:r=0
 ·rw[show mach.setReg m' r v=m' from if_pos e];exact h
 ·rw[show mach.setReg m' r v={m' with regs:=fun i=>if i=r.toNat then v else m'.regs i } from if_neg e];exact h):p:=h
theorem X11{p:Prop}(h:p:=by
 unfold mach.wrote
 by_cases e:n=0
 ·rw[if_pos e];exact h
 ·rw[if_neg e];exact h):p:=h
theorem X12{p:Prop}(h:p:=by
 obtain⟨k,hk⟩:=h.reach
 exact⟨k+1,by rw[run_last,<-hk,if_neg (by rw[he];decide)]⟩):p:=h
theorem X13{p:Prop}(h:p:=by exact hstop 2 (by unfold mach.step;dsimp only;rw[if_neg c1,if_neg c2,if_neg c3,if_pos c4])):p:=h
theorem X14{p:Prop}(h:p:=by show 0<=m.steps+1;have:=h.fine.steps;omega):p:=h
theorem X15{p:Prop}(h:p:=by
 rcases h.slot i hi with q|q
 ·exact Or.inl q
 ·exact Or.inr (q.congr f6 f7 f12)):p:=h
theorem X16{p:Prop}(h:p:=by exact hstop 4 (by unfold mach.step;rw[if_neg c1,if_neg c2,if_pos c3])):p:=h
theorem X17{p:Prop}(h:p:=by
 have:((2^k:Nat):Int)=(2:Int)^k:=by push_cast;rfl
 omega):p:=h
theorem X18{p:Prop}(h:p:=by rw[if_neg c];exact⟨nof,kx_next (kx_setReg (kx_refl m) _ _)⟩):p:=h
theorem X19{p:Prop}(h:p:=by rw[if_neg k];exact⟨nof,kx_stop m _,fun _=>Or.inl rfl⟩):p:=h
theorem X1a{p:Prop}(h:p:=by rw[if_pos c10];exact hs _):p:=h
theorem X1b{p:Prop}(h:p:=by show(m.evs.length:Int)<=m.steps+1;have:=h.evs;omega):p:=h
theorem X1c{p:Prop}(h:p:=by exact hstop 3 (by unfold mach.step;rw[if_neg c1,if_pos c2])):p:=h
theorem X1d{p:Prop}(h:p:=by rw[if_pos c7];exact hs _):p:=h
theorem X1e{p:Prop}(h:p:=by rw[if_pos c8];exact hs _):p:=h
theorem X1f{p:Prop}(h:p:=by rw[if_pos c9];exact hs _):p:=h
theorem X1g{p:Prop}(h:p:=by rw[(setReg_fs _ _ _).1,(setReg_fs _ _ _).2];exact hlt):p:=h
theorem X1h{p:Prop}(h:p:=by rw[(wrote_fs _ _ _).1,(wrote_fs _ _ _).2];exact hlt):p:=h
theorem X1i{p:Prop}(h:p:=by have:=ha.2;omega):p:=h
theorem X1j{p:Prop}(h:p:=by have:=hb.2;omega):p:=h
theorem X1k{p:Prop}(h:p:=by omega):p:=h
namespace nums
open RowKit IntWalk
theorem s31_eq(b:Int)(h2:0<=b)(h3:b<=4294967295):bits BinOp.and IntKind.u32 b 31=b%32:=by
 rw[u32_and b 31 h2 X1k X1k X1k]
 have:b.toNat&&&(31:Int).toNat=b.toNat%32:=by
  have:=Nat.and_two_pow_sub_one_eq_mod b.toNat 5
  simpa using this
 rw[this];omega
theorem s31_lo(b:Int)(h2:0<=b)(h3:b<=4294967295):0<=bits BinOp.and IntKind.u32 b 31:=by rw[s31_eq b h2 h3];omega
theorem s31_hi(b:Int)(h2:0<=b)(h3:b<=4294967295):bits BinOp.and IntKind.u32 b 31<=31:=by rw[s31_eq b h2 h3];omega

def sdiv (a b:Int):Int:=if b=0 then 4294967295 else(wrap32 a).tdiv (wrap32 b)%4294967296
def srem (a b:Int):Int:=if b=0 then a else(wrap32 a).tmod (wrap32 b)%4294967296
def udiv (a b:Int):Int:=if b=0 then 4294967295 else a/b
def urem (a b:Int):Int:=if b=0 then a else a%b

def comp (op a b:Int):Int:=
 if op=27\/op=18 then(a+b)%4294967296 else
 if op=28 then(a-b)%4294967296 else
 if op=29\/op=24 then a*2^(bits BinOp.and IntKind.u32 b 31).toNat%4294967296 else
 if op=30\/op=19 then(if wrap32 a<wrap32 b then 1 else 0)else
 if op=31\/op=20 then(if a<b then 1 else 0)else
 if op=32\/op=21 then bits BinOp.xor IntKind.u32 a b else
 if op=33\/op=25 then a/2^(bits BinOp.and IntKind.u32 b 31).toNat else
 if op=34\/op=26 then wrap32 a/2^(bits BinOp.and IntKind.u32 b 31).toNat%4294967296 else
 if op=35\/op=22 then bits BinOp.or IntKind.u32 a b else
 if op=36\/op=23 then bits BinOp.and IntKind.u32 a b else
 if op=37 then a*b%4294967296 else
 if op=38 then wrap32 a*wrap32 b/4294967296%4294967296 else
 if op=39 then wrap32 a*b/4294967296%4294967296 else
 if op=40 then a*b/4294967296%4294967296 else
 if op=41 then sdiv a b else
 if op=42 then udiv a b else
 if op=43 then srem a b else
 if op=44 then urem a b else 0

theorem comp_other(op a b:Int)(h:op<18\/44<op):comp op a b=0:=by
 unfold comp
 repeat rw[if_neg X1k]

theorem c41(a b:Int):comp 41 a b=sdiv a b:=by simp[comp]
theorem c43(a b:Int):comp 43 a b=srem a b:=by simp[comp]
theorem c41z(a:Int):comp 41 a 0=4294967295:=by simp[comp,sdiv]
theorem c42z(a:Int):comp 42 a 0=4294967295:=by simp[comp,udiv]
theorem c43z(a:Int):comp 43 a 0=a:=by simp[comp,srem]
theorem c44z(a:Int):comp 44 a 0=a:=by simp[comp,urem]
theorem w64w32(a:Int):wrap64 (wrap32 a)=wrap32 a:=by unfold wrap64 wrap32;omega
theorem w64mod(x:Int):wrap64 x%4294967296=x%4294967296:=by unfold wrap64;omega
theorem w32mod(x:Int):wrap32 x%4294967296=x%4294967296:=by unfold wrap32;omega
theorem w64hi(x:Int):wrap64 x/4294967296%4294967296=x/4294967296%4294967296:=by unfold wrap64;omega
theorem u64w64hi(x:Int):IntKind.u64.wrap (wrap64 x)/4294967296%4294967296=x/4294967296%4294967296:=by
 rw[IntKind.wrap_u64];unfold wrap64;omega
theorem u64hi(x:Int):IntKind.u64.wrap x/4294967296%4294967296=x/4294967296%4294967296:=by
 rw[IntKind.wrap_u64];omega

theorem w32_ne(b:Int)(h2:0<=b)(h3:b<=4294967295)(h:¬b=0):¬wrap32 b=0:=by unfold wrap32;omega
theorem w3264_ne(b:Int)(h2:0<=b)(h3:b<=4294967295)(h:¬b=0):¬wrap64 (wrap32 b)=0:=by rw[w64w32];exact w32_ne b h2 h3 h
theorem sdiv_least:sdiv 2147483648 4294967295=2147483648:=by decide +kernel
theorem srem_least:srem 2147483648 4294967295=0:=by decide +kernel

theorem ret_two{k:IntKind}{a b c d:Int}(h:a=b)(g:c=d):Ending.returned (.tuple #[.int k a,.int k c])=.returned (.tuple #[.int k b,.int k d]):=by rw[h,g]
theorem ret_int{k:IntKind}{a b:Int}(h:a=b):Ending.returned (.int k a)=.returned (.int k b):=by rw[h]
theorem ops_all(op:Int):(op<18\/44<op)\/op=18\/op=19\/op=20\/op=21\/op=22\/op=23\/op=24\/op=25\/op=26\/op=27\/op=28\/op=29\/op=30\/op=31\/op=32\/op=33\/op=34\/op=35\/op=36\/op=37\/op=38\/op=39\/op=40\/op=41\/op=42\/op=43\/op=44:=by omega
end nums
theorem oM{p:Prop}(h:p:=by omega):p:=h
theorem dC{p:Prop}(h:p:=by decide):p:=h
theorem sP{p:Prop}(h:p:=by simp):p:=h
theorem rF{p:Prop}(h:p:=by rfl):p:=h
theorem kR{p:Prop}(h:p:=by kernel_rfl):p:=h
theorem aS{p:Prop}(h:p:=by assumption):p:=h
theorem fS{p:Prop}(h:p:=by first|(simp;done)|(simp;omega)):p:=h
theorem mL{p:Prop}(h:p:=by unfold maxLen;omega):p:=h
theorem oC{p:Prop}(h:p:=by simp[Value.oneCell']):p:=h
namespace dnums
open RowKit IntWalk

theorem and_mask(a:Int)(k:Nat)(m:Int)(h0:0<=a)(h1:a<4294967296)(hm:m=2^k-1)(hk:k<=31):bits BinOp.and IntKind.u32 a m=a%2^k:=by
 have hp:(2:Int)^k<=2^31:=by exact_mod_cast Nat.pow_le_pow_right X1k hk
 have hp1:(0:Int)<2^k:=by exact_mod_cast Nat.two_pow_pos k
 rw[u32_and a m h0 h1 X1k X1k]
 have e:m.toNat=2^k-1:=by
  exact X17
 rw[e,Nat.and_two_pow_sub_one_eq_mod]
 have:((a.toNat%2^k:Nat):Int)=(a.toNat:Int)%((2^k:Nat):Int):=by push_cast;rfl
 rw[this]
 have e2:(a.toNat:Int)=a:=by omega
 rw[e2];push_cast;rfl

theorem or_add(a b:Int)(k:Nat)(h0:0<=a)(h1:a<4294967296)(g0:0<=b)(g1:b<2^k)(hk:k<=31)(hd:a%2^k=0):bits BinOp.or IntKind.u32 a b=a+b:=by
 have hp:(2:Int)^k<=2^31:=by exact_mod_cast Nat.pow_le_pow_right X1k hk
 rw[u32_or a b h0 h1 g0 X1k]
 have e:a.toNat=2^k*(a.toNat/2^k):=by
  have h:a.toNat%2^k=0:=by
   have:((a.toNat%2^k:Nat):Int)=a%2^k:=by push_cast;rw[show((a.toNat:Nat):Int)=a by omega]
   omega
  have:=Nat.div_add_mod a.toNat (2^k)
  omega
 have hb:b.toNat<2^k:=by
  exact X17
 rw[e,<-Nat.two_pow_add_eq_or_of_lt hb,<-e]
 push_cast;omega

theorem or_comm32(a b:Int)(h0:0<=a)(h1:a<4294967296)(g0:0<=b)(g1:b<4294967296):bits BinOp.or IntKind.u32 a b=bits BinOp.or IntKind.u32 b a:=by
 rw[u32_or a b h0 h1 g0 g1,u32_or b a g0 g1 h0 h1,Nat.or_comm]

theorem nat_andNot12(a:Nat)(h:a<4294967296):a&&&4294963200=a/4096*4096:=by
 have e1:(4294963200:Nat)=(2^20-1)<<<12:=by decide
 have e2:a/4096*4096=(a>>>12)<<<12:=by rw[Nat.shiftRight_eq_div_pow,Nat.shiftLeft_eq]
 rw[e1,e2]
 apply Nat.eq_of_testBit_eq
 intro i
 rw[Nat.testBit_and,Nat.testBit_shiftLeft,Nat.testBit_shiftLeft,Nat.testBit_shiftRight,Nat.testBit_two_pow_sub_one]
 by_cases hi:i<12
 ·simp[show ¬i≥12 by omega]
 ·by_cases hj:i<32
  ·simp[show i≥12 by omega,show i-12<20 by omega,show 12+(i-12)=i by omega]
  ·have:a.testBit i=false:=Nat.testBit_lt_two_pow (Nat.lt_of_lt_of_le h (by rw[show(4294967296:Nat)=2^32 by decide];exact Nat.pow_le_pow_right X1k X1k))
   simp[this,show 12+(i-12)=i by omega]

theorem andNot12(a:Int)(h0:0<=a)(h1:a<4294967296):bits BinOp.andNot IntKind.u32 a 4095=a/4096*4096:=by
 rw[u32_andNot a 4095 h0 h1 X1k X1k]
 rw[show(4294967295-(4095:Int).toNat)=4294963200 by decide,nat_andNot12 a.toNat X1k]
 omega

/-! The fields. -/
def opc (x:Int):Int:=x%128
def rdf (x:Int):Int:=x/128%32
def f3 (x:Int):Int:=x/4096%8
def r1 (x:Int):Int:=x/32768%32
def r2 (x:Int):Int:=x/1048576%32
def f7 (x:Int):Int:=x/33554432
def immI (x:Int):Int:=wrap32 x/1048576
def immS (x:Int):Int:=wrap32 x/33554432*32+x/128%32
def immB (x:Int):Int:=wrap32 x/2147483648*4096+x/128%2*2048+x/33554432%64*32+x/256%16*2
def immU (x:Int):Int:=wrap32 x/4096*4096
def immJ (x:Int):Int:=wrap32 x/2147483648*1048576+x/4096%256*4096+x/1048576%2*2048+x/2097152%1024*2

theorem f3_bd(x:Int):0<=f3 x/\f3 x<=7:=by unfold f3;omega
theorem f3_all(x:Int):f3 x=0\/f3 x=1\/f3 x=2\/f3 x=3\/f3 x=4\/f3 x=5\/f3 x=6\/f3 x=7:=by unfold f3;omega

/-! The operation, -1 for none. -/
def T63:List Int:=[4,5,-1,-1,6,7,8,9]
def T03:List Int:=[10,11,12,-1,13,14,-1,-1]
def T23:List Int:=[15,16,17,-1,-1,-1,-1,-1]
def T13:List Int:=[18,-1,19,20,21,-1,22,23]
def T330:List Int:=[27,29,30,31,32,33,35,36]
def T331:List Int:=[37,38,39,40,41,42,43,44]
def T3320:List Int:=[28,-1,-1,-1,-1,34,-1,-1]
def T0F:List Int:=[45,45,-1,-1,-1,-1,-1,-1]
def T67:List Int:=[3,-1,-1,-1,-1,-1,-1,-1]
def at8 (t:List Int) (x:Int):Int:=t.getD (f3 x).toNat (-1)
def sh (x:Int):Int:=if f3 x=1 then(if f7 x=0 then 24 else -1)else(if f7 x=0 then 25 else if f7 x=32 then 26 else -1)
def opn (x:Int):Int:=
 if opc x=55 then 0 else if opc x=23 then 1 else if opc x=111 then 2 else if opc x=103 then at8 T67 x else
 if opc x=99 then at8 T63 x else if opc x=3 then at8 T03 x else if opc x=35 then at8 T23 x else
 if opc x=19 then(if f3 x=1\/f3 x=5 then sh x else at8 T13 x)else
 if opc x=51 then(if f7 x=0 then at8 T330 x else if f7 x=1 then at8 T331 x else if f7 x=32 then at8 T3320 x else -1)else
 if opc x=15 then at8 T0F x else if opc x=115 then(if x=115 then 46 else if x=1048691 then 47 else -1)else -1
def hasRd (x:Int):Bool:=opc x==55||opc x==23||opc x==111||opc x==103||opc x==3||opc x==19||opc x==51
def hasR1 (x:Int):Bool:=opc x==103||opc x==99||opc x==3||opc x==35||opc x==19||opc x==51
def hasR2 (x:Int):Bool:=opc x==99||opc x==35||opc x==51
def imm (x:Int):Int:=
 if opc x=55\/opc x=23 then immU x else if opc x=111 then immJ x else if opc x=103\/opc x=3 then immI x else
 if opc x=99 then immB x else if opc x=35 then immS x else if opc x=19 then(if f3 x=1\/f3 x=5 then r2 x else immI x)else 0
def dOk (x:Int):Bool:= !(opn x==-1)
def dOp (x:Int):Int:=if opn x=-1 then 0 else opn x
def dRd (x:Int):Int:=if opn x=-1 then 0 else if hasRd x then rdf x else 0
def dR1 (x:Int):Int:=if opn x=-1 then 0 else if hasR1 x then r1 x else 0
def dR2 (x:Int):Int:=if opn x=-1 then 0 else if hasR2 x then r2 x else 0
def dImm (x:Int):Int:=if opn x=-1 then 0 else imm x

def dec (x:Int):Value:=.tuple #[.agg #[.int .i64 (dOp x),.int .i64 (dRd x),.int .i64 (dR1 x),.int .i64 (dR2 x),.int .i32 (dImm x)],.bool (dOk x)]
def ins (o d a b i:Int):Value:=.tuple #[.agg #[.int .i64 o,.int .i64 d,.int .i64 a,.int .i64 b,.int .i32 i],.bool true]
def no:Value:=.tuple #[.agg #[.int .i64 0,.int .i64 0,.int .i64 0,.int .i64 0,.int .i32 0],.bool false]
theorem dec_no(x:Int)(h:opn x=-1):dec x=no:=by
 simp[dec,no,dOp,dRd,dR1,dR2,dImm,dOk,h]
theorem dec_ins(x o d a b i:Int)(h:opn x=o)(hn:¬o=-1)(hd:(if hasRd x then rdf x else 0)=d)(ha:(if hasR1 x then r1 x else 0)=a)
  (hb:(if hasR2 x then r2 x else 0)=b) (hi:imm x=i):dec x=ins o d a b i:=by
 subst h hd ha hb hi
 simp[dec,ins,dOp,dRd,dR1,dR2,dImm,dOk,hn]
def qRd (x:Int):Int:=if hasRd x then rdf x else 0
def qR1 (x:Int):Int:=if hasR1 x then r1 x else 0
def qR2 (x:Int):Int:=if hasR2 x then r2 x else 0
def raw (x:Int):Value:=.agg #[.int .i64 (opn x),.int .i64 (qRd x),.int .i64 (qR1 x),.int .i64 (qR2 x),.int .i32 (imm x)]
theorem raw_is(x o d a b i:Int)(h:opn x=o)(hd:qRd x=d)(ha:qR1 x=a)(hb:qR2 x=b)(hi:imm x=i):
  raw x=.agg #[.int .i64 o,.int .i64 d,.int .i64 a,.int .i64 b,.int .i32 i]:=by
 subst h hd ha hb hi;rfl
theorem dec_raw(x:Int)(h:¬opn x=-1):dec x=ins (opn x) (qRd x) (qR1 x) (qR2 x) (imm x):=
 dec_ins x _ _ _ _ _ rfl h rfl rfl rfl rfl
end dnums
namespace mach
open RowKit nums dnums
structure Ev where
 call:Int
 result:Int
 data:ByteArray
structure Blk where
 pc:Int
 len:Int
 built:Int
 entered:Int
structure M where
 out:Int
 pc:Int
 regs:Nat->Int
 brk:Int
 evs:List Ev
 steps:Int
 built:Int
 mem:Nat->Int
 size:Nat
 low:Int
 ans:List ByteArray
 fuel:Int
 ended:Bool
 nslots:Nat
 slots:Nat->Int × Int
 arena:Int
 used:Int
 cur:Int × Int
 done:Int
 blocks:List Blk

def setReg (m:M) (r v:Int):M:=if r=0 then m else {m with regs:=fun i=>if i=r.toNat then v else m.regs i }
def stop (m:M) (o:Int):M:={m with out:=o,ended:=true }
def lies (m:M) (a n:Int):Bool:=decide (a+n<=m.size)
def ld (mem:Nat->Int) (a:Nat):Nat->Int
 |0=>0
 |k+1=>ld mem a k+mem (a+k)*256^k
def st (mem:Nat->Int) (a n:Nat) (v:Int):Nat->Int:=fun i=>if a<=i/\i<a+n then v/256^(i-a)%256 else mem i
def put (mem:Nat->Int) (a:Nat) (s:ByteArray):Nat->Int:=fun i=>if a<=i/\i<a+s.size then((s.data.getD (i-a) 0).toNat:Int)else mem i
def hit (p:Int × Int) (a n:Int):Bool:=decide (a/64<=p.1/64/\p.1/64<=(a+n-1)/64)
def wrote (m:M) (a n:Int):M:=
 if n=0 then m else {m with slots:=fun i=>if hit (m.slots i) a n then(0,0)else m.slots i,cur:=if hit m.cur a n then(0,0)else m.cur }
def goes (m:M) (to:Int):M:=if to%4=0 then {m with pc:=to,steps:=m.steps+1,cur:=(0,0) } else stop m 3
def next (m:M):M:={m with pc:=(m.pc+4)%4294967296,steps:=m.steps+1 }

def width (op:Int):Nat:=if op=10\/op=13\/op=15 then 1 else if op=11\/op=14\/op=16 then 2 else 4
def sext (v:Int) (n:Nat):Int:=if 2^(8*n-1)<=v then(v-2^(8*n))%4294967296 else v
def memop (m:M) (op rd a b:Int):M:=
 let n:=width op
 if a%n≠0 then stop m (if 15<=op then 7 else 5)else
 if !lies m a n then stop m (if 15<=op then 8 else 6)else
 if 15<=op then next (wrote {m with mem:=st m.mem a.toNat n b } a n)else
 next (setReg m rd (if op<12 then sext (ld m.mem a.toNat n) n else ld m.mem a.toNat n))

def taken (op a b:Int):Bool:=
 if op=4 then a==b else if op=5 then !(a==b)else if op=6 then decide (wrap32 a<wrap32 b)else if op=7 then decide (wrap32 b<=wrap32 a)else
 if op=8 then decide (a<b)else decide (b<=a)

def ecall (m:M):M:=
 let a:=m.regs 10
 let p:=m.regs 11
 let n:=m.regs 12
 let c:=m.regs 17
 if c=93 then stop {m with evs:=m.evs++[⟨93,a,ByteArray.empty⟩],steps:=m.steps+1 } 1 else
 if c=64 then(if lies m p n then next (setReg {m with evs:=m.evs++[⟨64,n,⟨((List.range n.toNat).map fun k=>UInt8.ofNat (m.mem (p.toNat+k)).toNat).toArray⟩⟩] } 10 n)else next (setReg m 10 4294967282))else
 if c=63 then
  (if lies m p n then
   let s:=m.ans.headD ByteArray.empty
   let t:=s.extract 0 (min s.size n.toNat)
   next (setReg {wrote {m with mem:=put m.mem p.toNat t,ans:=m.ans.tail } p t.size with evs:=m.evs++[⟨63,t.size,t⟩] } 10 t.size)
  else next (setReg m 10 4294967282))else
 if c=214 then
  (let k:=if m.low<=a/\a<=m.size then a else m.brk
   next (setReg {m with brk:=k } 10 k))else
 next (setReg m 10 4294967258)

def exec (m:M) (x:Int):M:=
 let op:=opn x
 let a:=m.regs (qR1 x).toNat
 let b:=m.regs (qR2 x).toNat
 let i:=imm x%4294967296
 if op=2 then
  (if(m.pc+i)%4294967296%4=0 then setReg (goes m ((m.pc+i)%4294967296)) (qRd x) ((m.pc+4)%4294967296)else stop m 3)else
 if op=3 then
  (let to:=(a+i)%4294967296/2*2
   if to%4=0 then setReg (goes m to) (qRd x) ((m.pc+4)%4294967296)else stop m 3)else
 if 4<=op/\op<=9 then(if taken op a b then goes m ((m.pc+i)%4294967296)else next m)else
 if op=47 then stop m 9 else
 if op=46 then ecall m else
 if 10<=op/\op<18 then memop m op (qRd x) ((a+i)%4294967296) b else
 if op=0 then next (setReg m (qRd x) i)else
 if op=1 then next (setReg m (qRd x) ((m.pc+i)%4294967296))else
 if 18<=op/\op<=26 then next (setReg m (qRd x) (comp op a i))else
 if 27<=op/\op<=44 then next (setReg m (qRd x) (comp op a b))else next m

def ends (op:Int):Bool:=decide ((2<=op/\op<=9)\/op=46\/op=47)
def blockLen (mem:Nat->Int):Nat->Int->Int
 |0,_=>0
 |k+1,pc=>
  let x:=ld mem pc.toNat 4
  if opn x=-1 then 0 else if ends (opn x)||(pc+4)%64==0 then 1 else 1+blockLen mem k (pc+4)
def countIn (l:List Blk) (pc len b e:Int):List Blk:=l.map fun k=>if k.pc=pc then {k with len:=if 0<b then len else k.len,built:=k.built+b,entered:=k.entered+e } else k
def count (l:List Blk) (pc len b e:Int):List Blk:=
 if l.any fun k=>k.pc==pc then countIn l pc len b e else l.takeWhile (fun k=>decide (k.pc<pc))++⟨pc,len,b,e⟩::l.dropWhile (fun k=>decide (k.pc<pc))
def find (m:M):M:=
 let k:=(m.pc/4).toNat%m.nslots
 let p:=m.slots k
 if p.2=0\/p.1≠m.pc then
  let n:=blockLen m.mem 8 m.pc
  let full:=decide (m.arena<m.used+n)
  let old:=if full then fun _=>((0:Int),(0:Int))else m.slots
  {m with slots:=fun i=>if i=k then(m.pc,n)else old i,used:=(if full then 0 else m.used)+n,built:=m.built+1,cur:=(m.pc,n),done:=0,blocks:=count (count m.blocks m.pc n 1 0) m.pc n 0 1 }
 else {m with cur:=p,done:=0,blocks:=count m.blocks p.1 p.2 0 1 }
def lost (m:M):Bool:=decide (0<m.nslots)&&(m.cur.2==0||decide (m.cur.2<=m.done)|| !((m.cur.1+4*m.done)%4294967296==m.pc))
def step (m:M):M:=
 if m.fuel<=m.steps then stop m 0 else
 if m.pc%4≠0 then stop m 3 else
 if !lies m m.pc 4 then stop m 4 else
 let x:=ld m.mem m.pc.toNat 4
 if opn x=-1 then stop m 2 else
 let f:=if lost m then find m else m
 exec {f with done:=f.done+1 } x
def run:Nat->M->M
 |0,m=>m
 |k+1,m=>if m.ended then m else run k (step m)

/-! What the machine keeps to. -/
structure Fine (m:M):Prop where
 regs:∀r,0<=m.regs r/\m.regs r<=4294967295
 zero:m.regs 0=0
 mem:∀i,0<=m.mem i/\m.mem i<=255
 size:m.size<=512
 pc:0<=m.pc/\m.pc<=4294967295
 brk:0<=m.brk/\m.brk<=4294967295
 low:0<=m.low/\m.low<=m.size
 steps:0<=m.steps
 fuel:0<=m.fuel/\m.fuel<=2000
 within:m.steps<=m.fuel

theorem ld_bd(mem:Nat->Int)(h:∀i,0<=mem i/\mem i<=255)(a:Nat):∀n,0<=ld mem a n/\ld mem a n<256^n:=by
 intro n
 induction n with
 |zero=>simp[ld]
 |succ k ih=>
  have hk:=h (a+k)
  have hp:(0:Int)<256^k:=Int.pow_pos dC
  have h1:0<=mem (a+k)*256^k:=Int.mul_nonneg hk.1 (Int.le_of_lt hp)
  have h2:mem (a+k)*256^k<=255*256^k:=Int.mul_le_mul_of_nonneg_right hk.2 (Int.le_of_lt hp)
  have e:(256:Int)^(k+1)=256^k*256:=by rw[Int.pow_succ]
  simp only[ld]
  rw[e]
  omega
theorem ld4(mem:Nat->Int)(h:∀i,0<=mem i/\mem i<=255)(a:Nat):0<=ld mem a 4/\ld mem a 4<=4294967295:=by
 have:=ld_bd mem h a 4
 simp at this
 omega
end mach
namespace mach
open RowKit IntWalk nums dnums
def U (x:Int):Prop:=0<=x/\x<=4294967295
theorem U_mod(x:Int):U (x%4294967296):=by unfold U;omega
theorem bits_bd(x y:Nat)(f:Nat->Nat->Nat)(h:x<2^32->y<2^32->f x y<2^32)(hx:x<4294967296)(hy:y<4294967296):U ((f x y:Nat):Int):=by
 have:=h (by simpa using hx) (by simpa using hy)
 simp at this
 unfold U;omega
theorem or_bd(a b:Int)(ha:U a)(hb:U b):U (bits BinOp.or IntKind.u32 a b):=by
 rw[u32_or a b ha.1 X1i hb.1 X1j]
 exact bits_bd _ _ (fun x y=>x|||y) (fun p q=>Nat.or_lt_two_pow p q) X1i X1j
theorem and_bd(a b:Int)(ha:U a)(hb:U b):U (bits BinOp.and IntKind.u32 a b):=by
 rw[u32_and a b ha.1 X1i hb.1 X1j]
 exact bits_bd _ _ (fun x y=>x&&&y) (fun p q=>Nat.and_lt_two_pow _ q) X1i X1j
theorem xor_bd(a b:Int)(ha:U a)(hb:U b):U (bits BinOp.xor IntKind.u32 a b):=by
 rw[u32_xor a b ha.1 X1i hb.1 X1j]
 exact bits_bd _ _ (fun x y=>x^^^y) (fun p q=>Nat.xor_lt_two_pow p q) X1i X1j
theorem div_bd(a b:Int)(ha:U a)(hb:0<=b):U (a/b):=
 ⟨Int.ediv_nonneg ha.1 hb,Int.le_trans (Int.ediv_le_self b ha.1) ha.2⟩
theorem comp_bd(op a b:Int)(ha:U a)(hb:U b):U (comp op a b):=by
 have p:∀k:Nat,(0:Int)<=2^k:=fun k=>Int.le_of_lt (Int.pow_pos dC)
 unfold comp
 by_cases c1:op=27\/op=18
 ·rw[if_pos c1];exact U_mod _
 rw[if_neg c1]
 by_cases c2:op=28
 ·rw[if_pos c2];exact U_mod _
 rw[if_neg c2]
 by_cases c3:op=29\/op=24
 ·rw[if_pos c3];exact U_mod _
 rw[if_neg c3]
 by_cases c4:op=30\/op=19
 ·rw[if_pos c4];by_cases d:wrap32 a<wrap32 b<;>simp[d,U]
 rw[if_neg c4]
 by_cases c5:op=31\/op=20
 ·rw[if_pos c5];by_cases d:a<b<;>simp[d,U]
 rw[if_neg c5]
 by_cases c6:op=32\/op=21
 ·rw[if_pos c6];exact xor_bd a b ha hb
 rw[if_neg c6]
 by_cases c7:op=33\/op=25
 ·rw[if_pos c7];exact div_bd a _ ha (p _)
 rw[if_neg c7]
 by_cases c8:op=34\/op=26
 ·rw[if_pos c8];exact U_mod _
 rw[if_neg c8]
 by_cases c9:op=35\/op=22
 ·rw[if_pos c9];exact or_bd a b ha hb
 rw[if_neg c9]
 by_cases c10:op=36\/op=23
 ·rw[if_pos c10];exact and_bd a b ha hb
 rw[if_neg c10]
 by_cases c11:op=37
 ·rw[if_pos c11];exact U_mod _
 rw[if_neg c11]
 by_cases c12:op=38
 ·rw[if_pos c12];exact U_mod _
 rw[if_neg c12]
 by_cases c13:op=39
 ·rw[if_pos c13];exact U_mod _
 rw[if_neg c13]
 by_cases c14:op=40
 ·rw[if_pos c14];exact U_mod _
 rw[if_neg c14]
 by_cases c15:op=41
 ·rw[if_pos c15];unfold sdiv
  by_cases d:b=0
  ·rw[if_pos d];simp[U]
  ·rw[if_neg d];exact U_mod _
 rw[if_neg c15]
 by_cases c16:op=42
 ·rw[if_pos c16];unfold udiv
  by_cases d:b=0
  ·rw[if_pos d];simp[U]
  ·rw[if_neg d];exact div_bd a b ha hb.1
 rw[if_neg c16]
 by_cases c17:op=43
 ·rw[if_pos c17];unfold srem
  by_cases d:b=0
  ·rw[if_pos d];exact ha
  ·rw[if_neg d];exact U_mod _
 rw[if_neg c17]
 by_cases c18:op=44
 ·rw[if_pos c18];unfold urem
  by_cases d:b=0
  ·rw[if_pos d];exact ha
  ·rw[if_neg d]
   have h1:=Int.emod_nonneg a d
   have h2:=Int.emod_lt_of_pos a (b:=b) (by have:=hb.1;omega)
   have:=hb.2
   unfold U;omega
 rw[if_neg c18];simp[U]

structure MGood (m:M):Prop where
 fine:Fine m
 pos:0<m.size
 evs:(m.evs.length:Int)<=m.steps
 cur:0<=m.cur.1/\m.cur.1<=4294967295
theorem MGood.stop {m:M}(h:MGood m)(o:Int):MGood (stop m o):=
 ⟨⟨h.fine.regs,h.fine.zero,h.fine.mem,h.fine.size,h.fine.pc,h.fine.brk,h.fine.low,h.fine.steps,h.fine.fuel,h.fine.within⟩,h.pos,h.evs,h.cur⟩
theorem MGood.setReg {m:M}(h:MGood m)(r v:Int)(hr:0<=r)(hv:U v):MGood (setReg m r v):=by
 by_cases e:r=0
 ·rw[show mach.setReg m r v=m from if_pos e];exact h
 ·rw[show mach.setReg m r v={m with regs:=fun i=>if i=r.toNat then v else m.regs i } from if_neg e]
  refine⟨⟨fun i=> ?_, ?_,h.fine.mem,h.fine.size,h.fine.pc,h.fine.brk,h.fine.low,h.fine.steps,h.fine.fuel,h.fine.within⟩,h.pos,h.evs,h.cur⟩
  ·show 0<=(if i=r.toNat then v else m.regs i)/\(if i=r.toNat then v else m.regs i)<=4294967295
   by_cases k:i=r.toNat
   ·rw[if_pos k];exact hv
   ·rw[if_neg k];exact h.fine.regs i
  ·show(if 0=r.toNat then v else m.regs 0)=0
   rw[if_neg oM];exact h.fine.zero
theorem MGood.next {m:M}(h:MGood m)(hlt:m.steps<m.fuel):MGood (next m):=by
 refine⟨⟨h.fine.regs,h.fine.zero,h.fine.mem,h.fine.size,U_mod _,h.fine.brk,h.fine.low, ?_,h.fine.fuel, ?_⟩,h.pos, ?_,h.cur⟩
 ·exact X14
 ·show m.steps+1<=m.fuel;omega
 ·exact X1b
theorem MGood.goes {m:M}(h:MGood m)(hlt:m.steps<m.fuel)(to:Int)(ht:U to):MGood (goes m to):=by
 by_cases e:to%4=0
 ·rw[show mach.goes m to={m with pc:=to,steps:=m.steps+1,cur:=(0,0) } from if_pos e]
  refine⟨⟨h.fine.regs,h.fine.zero,h.fine.mem,h.fine.size,ht,h.fine.brk,h.fine.low, ?_,h.fine.fuel, ?_⟩,h.pos, ?_, ?_⟩
  ·exact X14
  ·show m.steps+1<=m.fuel;omega
  ·exact X1b
  ·show(0:Int)<=0/\(0:Int)<=4294967295;omega
 ·rw[show mach.goes m to=mach.stop m 3 from if_neg e];exact h.stop 3
theorem MGood.mem {m:M}(h:MGood m)(f:Nat->Int)(hf:∀i,0<=f i/\f i<=255):MGood {m with mem:=f }:=
 ⟨⟨h.fine.regs,h.fine.zero,hf,h.fine.size,h.fine.pc,h.fine.brk,h.fine.low,h.fine.steps,h.fine.fuel,h.fine.within⟩,h.pos,h.evs,h.cur⟩
theorem MGood.wrote {m:M}(h:MGood m)(a n:Int):MGood (wrote m a n):=by
 by_cases e:n=0
 ·rw[show mach.wrote m a n=m from if_pos e];exact h
 ·rw[show mach.wrote m a n={m with slots:=fun i=>if hit (m.slots i) a n then(0,0)else m.slots i,cur:=if hit m.cur a n then(0,0)else m.cur } from if_neg e]
  refine⟨⟨h.fine.regs,h.fine.zero,h.fine.mem,h.fine.size,h.fine.pc,h.fine.brk,h.fine.low,h.fine.steps,h.fine.fuel,h.fine.within⟩,h.pos,h.evs, ?_⟩
  show 0<=(if hit m.cur a n=true then((0:Int),(0:Int))else m.cur).1/\(if hit m.cur a n=true then((0:Int),(0:Int))else m.cur).1<=4294967295
  by_cases k:hit m.cur a n=true
  ·rw[if_pos k];exact⟨by decide,by decide⟩
  ·rw[if_neg k];exact h.cur
theorem st_bd(mem:Nat->Int)(h:∀i,0<=mem i/\mem i<=255)(a n:Nat)(v:Int):∀i,0<=st mem a n v i/\st mem a n v i<=255:=by
 intro i
 unfold st
 by_cases e:a<=i/\i<a+n
 ·rw[if_pos e];omega
 ·rw[if_neg e];exact h i
theorem put_bd(mem:Nat->Int)(h:∀i,0<=mem i/\mem i<=255)(a:Nat)(s:ByteArray):∀i,0<=put mem a s i/\put mem a s i<=255:=by
 intro i
 unfold put
 by_cases e:a<=i/\i<a+s.size
 ·rw[if_pos e]
  have:=(s.data.getD (i-a) 0).toNat_lt
  omega
 ·rw[if_neg e];exact h i
theorem sext_bd(v:Int)(n:Nat)(h0:0<=v)(h1:v<=4294967295):U (sext v n):=by
 unfold sext
 by_cases k:2^(8*n-1)<=v
 ·rw[if_pos k];exact U_mod _
 ·rw[if_neg k];exact⟨h0,h1⟩
theorem width_cases(op:Int):width op=1\/width op=2\/width op=4:=by
 unfold width
 by_cases h1:op=10\/op=13\/op=15
 ·rw[if_pos h1];omega
 ·rw[if_neg h1]
  by_cases h2:op=11\/op=14\/op=16
  ·rw[if_pos h2];omega
  ·rw[if_neg h2];omega
theorem ldw_bd(m:M)(h:MGood m)(a:Nat)(op:Int):U (ld m.mem a (width op)):=by
 have hb:=ld_bd m.mem h.fine.mem a (width op)
 have:(256:Int)^(width op)<=4294967296:=by rcases width_cases op with e|e|e<;>rw[e]<;>decide
 exact⟨hb.1,by omega⟩
theorem wrote_fs(m:M)(a n:Int):(wrote m a n).fuel=m.fuel/\(wrote m a n).steps=m.steps:=by unfold wrote;by_cases e:n=0<;>simp[e]
theorem wrote_evs(m:M)(a n:Int):(wrote m a n).evs=m.evs:=by unfold wrote;by_cases e:n=0<;>simp[e]
theorem setReg_fs(m:M)(r v:Int):(setReg m r v).fuel=m.fuel/\(setReg m r v).steps=m.steps:=by unfold setReg;by_cases e:r=0<;>simp[e]
theorem MGood.memop {m:M}(h:MGood m)(hlt:m.steps<m.fuel)(op rd a b:Int)(hr:0<=rd):MGood (memop m op rd a b):=by
 unfold mach.memop
 dsimp only
 by_cases h1:a%(width op)≠0
 ·rw[if_pos h1];exact h.stop _
 ·rw[if_neg h1]
  by_cases h2:(!lies m a (width op))=true
  ·rw[if_pos h2];exact h.stop _
  ·rw[if_neg h2]
   by_cases h3:15<=op
   ·rw[if_pos h3]
    exact((h.mem _ (st_bd m.mem h.fine.mem _ _ _)).wrote _ _).next X1h
   ·rw[if_neg h3]
    refine(h.setReg rd _ hr ?_).next X1g
    have hb:=ldw_bd m h a.toNat op
    by_cases h4:op<12
    ·rw[if_pos h4];exact sext_bd _ _ hb.1 hb.2
    ·rw[if_neg h4];exact hb
theorem MGood.evnext {m:M}(h:MGood m)(hlt:m.steps<m.fuel)(e:Ev)(v:Int)(hv:U v):MGood (mach.next (mach.setReg {m with evs:=m.evs++[e] } 10 v)):=by
 have hg:MGood (mach.setReg m 10 v):=h.setReg 10 v dC hv
 have hn:=hg.next X1g
 rw[show mach.setReg m 10 v={m with regs:=fun i=>if i=(10:Int).toNat then v else m.regs i } from if_neg dC]at hn
 rw[show mach.setReg {m with evs:=m.evs++[e] } 10 v={m with evs:=m.evs++[e],regs:=fun i=>if i=(10:Int).toNat then v else m.regs i } from if_neg dC]
 refine⟨⟨hn.fine.regs,hn.fine.zero,hn.fine.mem,hn.fine.size,hn.fine.pc,hn.fine.brk,hn.fine.low,hn.fine.steps,hn.fine.fuel,hn.fine.within⟩,hn.pos, ?_,hn.cur⟩
 show((m.evs++[e]).length:Int)<=m.steps+1
 rw[List.length_append]
 have:=h.evs
 simp
 omega
theorem MGood.ans {m:M}(h:MGood m)(l:List ByteArray):MGood {m with ans:=l }:=
 ⟨⟨h.fine.regs,h.fine.zero,h.fine.mem,h.fine.size,h.fine.pc,h.fine.brk,h.fine.low,h.fine.steps,h.fine.fuel,h.fine.within⟩,h.pos,h.evs,h.cur⟩
theorem MGood.ecall {m:M}(h:MGood m)(hlt:m.steps<m.fuel):MGood (ecall m):=by
 have hs:∀v,U v->MGood (mach.next (mach.setReg m 10 v)):=fun v hv=>(h.setReg 10 v dC hv).next X1g
 unfold mach.ecall
 dsimp only
 by_cases c1:m.regs 17=93
 ·rw[if_pos c1]
  refine MGood.stop ?_ 1
  refine⟨⟨h.fine.regs,h.fine.zero,h.fine.mem,h.fine.size,h.fine.pc,h.fine.brk,h.fine.low, ?_,h.fine.fuel, ?_⟩,h.pos, ?_,h.cur⟩
  ·exact X14
  ·show m.steps+1<=m.fuel;omega
  ·show((m.evs++[_]).length:Int)<=m.steps+1
   rw[List.length_append];have:=h.evs;simp;omega
 rw[if_neg c1]
 by_cases c2:m.regs 17=64
 ·rw[if_pos c2]
  by_cases c:lies m (m.regs 11) (m.regs 12)=true
  ·rw[if_pos c];exact h.evnext hlt _ _ (h.fine.regs 12)
  ·rw[if_neg c];exact hs _ (by simp[U])
 rw[if_neg c2]
 by_cases c3:m.regs 17=63
 ·rw[if_pos c3]
  by_cases c:lies m (m.regs 11) (m.regs 12)=true
  ·rw[if_pos c]
   generalize ht:(m.ans.headD ByteArray.empty).extract 0 (min (m.ans.headD ByteArray.empty).size (m.regs 12).toNat)=t
   have hsz:t.size<=(m.regs 12).toNat:=by rw[<-ht];simp;omega
   have hb:=h.fine.regs 12
   have hg:MGood (mach.wrote {m with mem:=put m.mem (m.regs 11).toNat t,ans:=m.ans.tail } (m.regs 11) t.size):=((h.mem _ (put_bd m.mem h.fine.mem _ t)).ans m.ans.tail).wrote _ _
   have he:(mach.wrote {m with mem:=put m.mem (m.regs 11).toNat t,ans:=m.ans.tail } (m.regs 11) t.size).evs=m.evs:=wrote_evs _ _ _
   have:=hg.evnext X1h ⟨63,t.size,t⟩ t.size ⟨by omega,by omega⟩
   rw[he]at this
   exact this
  ·rw[if_neg c];exact hs _ (by simp[U])
 rw[if_neg c3]
 by_cases c4:m.regs 17=214
 ·rw[if_pos c4]
  have hk:U (if m.low<=m.regs 10/\m.regs 10<=m.size then m.regs 10 else m.brk):=by
   by_cases k:m.low<=m.regs 10/\m.regs 10<=m.size
   ·rw[if_pos k];exact h.fine.regs 10
   ·rw[if_neg k];exact h.fine.brk
  generalize(if m.low<=m.regs 10/\m.regs 10<=m.size then m.regs 10 else m.brk)=k at hk
  have hg:MGood {m with brk:=k }:=⟨⟨h.fine.regs,h.fine.zero,h.fine.mem,h.fine.size,h.fine.pc,hk,h.fine.low,h.fine.steps,h.fine.fuel,h.fine.within⟩,h.pos,h.evs,h.cur⟩
  exact(hg.setReg 10 k dC hk).next X1g
 rw[if_neg c4];exact hs _ (by simp[U])
theorem rd_nn(x:Int):0<=qRd x:=by unfold qRd rdf;by_cases h:hasRd x=true<;>simp only[h,if_true,if_false,Bool.false_eq_true]<;>omega
theorem MGood.exec {m:M}(h:MGood m)(hlt:m.steps<m.fuel)(x:Int):MGood (exec m x):=by
 have hs:∀v,U v->MGood (mach.next (mach.setReg m (qRd x) v)):=fun v hv=>(h.setReg _ v (rd_nn x) hv).next X1g
 unfold mach.exec
 dsimp only
 by_cases c1:opn x=2
 ·rw[if_pos c1]
  by_cases k:(m.pc+imm x%4294967296)%4294967296%4=0
  ·rw[if_pos k];exact(h.goes hlt _ (U_mod _)).setReg _ _ (rd_nn x) (U_mod _)
  ·rw[if_neg k];exact h.stop _
 rw[if_neg c1]
 by_cases c2:opn x=3
 ·rw[if_pos c2]
  by_cases k:(m.regs (qR1 x).toNat+imm x%4294967296)%4294967296/2*2%4=0
  ·rw[if_pos k];exact(h.goes hlt _ (by unfold U;omega)).setReg _ _ (rd_nn x) (U_mod _)
  ·rw[if_neg k];exact h.stop _
 rw[if_neg c2]
 by_cases c3:4<=opn x/\opn x<=9
 ·rw[if_pos c3]
  by_cases k:taken (opn x) (m.regs (qR1 x).toNat) (m.regs (qR2 x).toNat)=true
  ·rw[if_pos k];exact h.goes hlt _ (U_mod _)
  ·rw[if_neg k];exact h.next hlt
 rw[if_neg c3]
 by_cases c4:opn x=47
 ·rw[if_pos c4];exact h.stop _
 rw[if_neg c4]
 by_cases c5:opn x=46
 ·rw[if_pos c5];exact h.ecall hlt
 rw[if_neg c5]
 by_cases c6:10<=opn x/\opn x<18
 ·rw[if_pos c6];exact h.memop hlt _ _ _ _ (rd_nn x)
 rw[if_neg c6]
 by_cases c7:opn x=0
 ·rw[if_pos c7];exact hs _ (U_mod _)
 rw[if_neg c7]
 by_cases c8:opn x=1
 ·rw[if_pos c8];exact hs _ (U_mod _)
 rw[if_neg c8]
 by_cases c9:18<=opn x/\opn x<=26
 ·rw[if_pos c9];exact hs _ (comp_bd _ _ _ (h.fine.regs _) (U_mod _))
 rw[if_neg c9]
 by_cases c10:27<=opn x/\opn x<=44
 ·rw[if_pos c10];exact hs _ (comp_bd _ _ _ (h.fine.regs _) (h.fine.regs _))
 rw[if_neg c10];exact h.next hlt
def Rows (m m':M):Prop:=m'.evs=m.evs/\m'.ans=m.ans/\m'.blocks=m.blocks/\m'.nslots=m.nslots
theorem Rows.setReg {m m':M}(h:Rows m m')(r v:Int):Rows m (mach.setReg m' r v):=by
 exact X10
theorem Rows.wrote {m m':M}(h:Rows m m')(a n:Int):Rows m (mach.wrote m' a n):=by
 exact X11
theorem Rows.goes (m:M)(to:Int):Rows m (mach.goes m to):=by
 unfold mach.goes
 by_cases e:to%4=0
 ·rw[if_pos e];exact⟨rfl,rfl,rfl,rfl⟩
 ·rw[if_neg e];exact⟨rfl,rfl,rfl,rfl⟩
theorem Rows.memop (m:M)(op rd a b:Int):Rows m (mach.memop m op rd a b):=by
 unfold mach.memop
 dsimp only
 by_cases h1:a%(width op)≠0
 ·rw[if_pos h1];exact⟨rfl,rfl,rfl,rfl⟩
 ·rw[if_neg h1]
  by_cases h2:(!lies m a (width op))=true
  ·rw[if_pos h2];exact⟨rfl,rfl,rfl,rfl⟩
  ·rw[if_neg h2]
   by_cases h3:15<=op
   ·rw[if_pos h3];exact Rows.wrote (m':={m with mem:=st m.mem a.toNat (width op) b }) ⟨rfl,rfl,rfl,rfl⟩ _ _
   ·rw[if_neg h3];exact Rows.setReg (m':=m) ⟨rfl,rfl,rfl,rfl⟩ _ _
theorem Rows.exec (m:M)(x:Int)(h46:¬opn x=46):Rows m (mach.exec m x):=by
 have h0:Rows m m:=⟨rfl,rfl,rfl,rfl⟩
 have hs:∀v,Rows m (mach.next (mach.setReg m (qRd x) v)):=fun v=>h0.setReg _ _
 unfold mach.exec
 dsimp only
 by_cases c1:opn x=2
 ·rw[if_pos c1]
  by_cases k:(m.pc+imm x%4294967296)%4294967296%4=0
  ·rw[if_pos k];exact(Rows.goes m _).setReg _ _
  ·rw[if_neg k];exact h0
 rw[if_neg c1]
 by_cases c2:opn x=3
 ·rw[if_pos c2]
  by_cases k:(m.regs (qR1 x).toNat+imm x%4294967296)%4294967296/2*2%4=0
  ·rw[if_pos k];exact(Rows.goes m _).setReg _ _
  ·rw[if_neg k];exact h0
 rw[if_neg c2]
 by_cases c3:4<=opn x/\opn x<=9
 ·rw[if_pos c3]
  by_cases k:taken (opn x) (m.regs (qR1 x).toNat) (m.regs (qR2 x).toNat)=true
  ·rw[if_pos k];exact Rows.goes m _
  ·rw[if_neg k];exact h0
 rw[if_neg c3]
 by_cases c4:opn x=47
 ·rw[if_pos c4];exact h0
 rw[if_neg c4,if_neg h46]
 by_cases c6:10<=opn x/\opn x<18
 ·rw[if_pos c6];exact Rows.memop m _ _ _ _
 rw[if_neg c6]
 by_cases c7:opn x=0
 ·exact X1d
 rw[if_neg c7]
 by_cases c8:opn x=1
 ·exact X1e
 rw[if_neg c8]
 by_cases c9:18<=opn x/\opn x<=26
 ·exact X1f
 rw[if_neg c9]
 by_cases c10:27<=opn x/\opn x<=44
 ·exact X1a
 rw[if_neg c10];exact h0
theorem at8_no(t:List Int)(x:Int)(h:∀k,k<8->¬t.getD k (-1)=46):¬at8 t x=46:=h _ (by have:=f3_bd x;omega)
theorem opn_46(x:Int)(h:opn x=46):x=115:=by
 have b67:=at8_no T67 x dC
 have b63:=at8_no T63 x dC
 have b03:=at8_no T03 x dC
 have b23:=at8_no T23 x dC
 have b13:=at8_no T13 x dC
 have b330:=at8_no T330 x dC
 have b331:=at8_no T331 x dC
 have b3320:=at8_no T3320 x dC
 have b0F:=at8_no T0F x dC
 have bs:¬sh x=46:=by
  unfold sh
  by_cases c:f3 x=1
  ·rw[if_pos c];by_cases d:f7 x=0<;>simp[d]
  ·rw[if_neg c]
   by_cases d:f7 x=0
   ·simp[d]
   ·rw[if_neg d];by_cases e:f7 x=32<;>simp[e]
 unfold opn at h
 by_cases c1:opc x=55
 ·rw[if_pos c1]at h;omega
 rw[if_neg c1]at h
 by_cases c2:opc x=23
 ·rw[if_pos c2]at h;omega
 rw[if_neg c2]at h
 by_cases c3:opc x=111
 ·rw[if_pos c3]at h;omega
 rw[if_neg c3]at h
 by_cases c4:opc x=103
 ·rw[if_pos c4]at h;exact absurd h b67
 rw[if_neg c4]at h
 by_cases c5:opc x=99
 ·rw[if_pos c5]at h;exact absurd h b63
 rw[if_neg c5]at h
 by_cases c6:opc x=3
 ·rw[if_pos c6]at h;exact absurd h b03
 rw[if_neg c6]at h
 by_cases c7:opc x=35
 ·rw[if_pos c7]at h;exact absurd h b23
 rw[if_neg c7]at h
 by_cases c8:opc x=19
 ·rw[if_pos c8]at h
  by_cases d:f3 x=1\/f3 x=5
  ·rw[if_pos d]at h;exact absurd h bs
  ·rw[if_neg d]at h;exact absurd h b13
 rw[if_neg c8]at h
 by_cases c9:opc x=51
 ·rw[if_pos c9]at h
  by_cases d:f7 x=0
  ·rw[if_pos d]at h;exact absurd h b330
  rw[if_neg d]at h
  by_cases e:f7 x=1
  ·rw[if_pos e]at h;exact absurd h b331
  rw[if_neg e]at h
  by_cases g:f7 x=32
  ·rw[if_pos g]at h;exact absurd h b3320
  rw[if_neg g]at h;omega
 rw[if_neg c9]at h
 by_cases c10:opc x=15
 ·rw[if_pos c10]at h;exact absurd h b0F
 rw[if_neg c10]at h
 by_cases c11:opc x=115
 ·rw[if_pos c11]at h
  by_cases d:x=115
  ·exact d
  rw[if_neg d]at h
  by_cases e:x=1048691
  ·rw[if_pos e]at h;omega
  rw[if_neg e]at h;omega
 rw[if_neg c11]at h;omega
theorem run_fix(m:M)(h:m.ended=true):∀k,run k m=m
 |0=>rfl
 |k+1=>by simp[run,h]
theorem run_last:∀(k:Nat) (m:M),run (k+1) m=if(run k m).ended then run k m else mach.step (run k m)
 |0,m=>rfl
 |k+1,m=>by
  rw[run]
  by_cases h:m.ended=true
  ·rw[if_pos h,run_fix m h (k+1),if_pos h]
  ·rw[if_neg h,run_last k (mach.step m)]
   have e:run (k+1) m=run k (mach.step m):=by rw[run,if_neg h]
   rw[e]
theorem run_add:∀(a b:Nat) (m:M),run (a+b) m=run b (run a m)
 |0,b,m=>by simp[run]
 |a+1,b,m=>by
  by_cases h:m.ended=true
  ·rw[run_fix m h,run_fix m h,run_fix m h]
  ·rw[show a+1+b=(a+b)+1 by omega,run,if_neg h,run_add a b,run,if_neg h]
theorem run_one(k j:Nat)(m:M)(hk:(run k m).ended=true)(hj:(run j m).ended=true):run k m=run j m:=by
 rcases Nat.le_total k j with h|h
 ·obtain⟨d,rfl⟩:=Nat.exists_eq_add_of_le h
  rw[run_add,run_fix _ hk]
 ·obtain⟨d,rfl⟩:=Nat.exists_eq_add_of_le h
  rw[run_add,run_fix _ hj]
def Fx (m m':M):Prop:=m'.done=m.done/\m'.fuel=m.fuel/\(m'.nslots,m'.low)=(m.nslots,m.low)/\m'.size=m.size/\(m'.ended=true\/m'.steps=m.steps+1)
theorem Fx.stop (m:M)(o:Int):Fx m (mach.stop m o):=⟨rfl,rfl,rfl,rfl,Or.inl rfl⟩
theorem Fx.next (m:M):Fx m (mach.next m):=⟨rfl,rfl,rfl,rfl,Or.inr rfl⟩
theorem Fx.goes (m:M)(to:Int):Fx m (mach.goes m to):=by
 unfold mach.goes
 by_cases e:to%4=0
 ·rw[if_pos e];exact⟨rfl,rfl,rfl,rfl,Or.inr rfl⟩
 ·rw[if_neg e];exact Fx.stop m 3
theorem Fx.setReg {m m':M}(h:Fx m m')(r v:Int):Fx m (mach.setReg m' r v):=by
 exact X10
def Fy (m m':M):Prop:=m'.done=m.done/\m'.fuel=m.fuel/\(m'.nslots,m'.low)=(m.nslots,m.low)/\m'.size=m.size/\m'.steps=m.steps
theorem Fy.next {m m':M}(h:Fy m m'):Fx m (mach.next m'):=⟨h.1,h.2.1,h.2.2.1,h.2.2.2.1,Or.inr (show m'.steps+1=m.steps+1 by rw[h.2.2.2.2])⟩
theorem Fy.refl (m:M):Fy m m:=⟨rfl,rfl,rfl,rfl,rfl⟩
theorem Fy.setReg {m m':M}(h:Fy m m')(r v:Int):Fy m (mach.setReg m' r v):=by
 exact X10
theorem Fy.wrote {m m':M}(h:Fy m m')(a n:Int):Fy m (mach.wrote m' a n):=by
 exact X11
theorem Fx.memop (m:M)(op rd a b:Int):Fx m (mach.memop m op rd a b):=by
 unfold mach.memop
 dsimp only
 by_cases h1:a%(width op)≠0
 ·rw[if_pos h1];exact Fx.stop m _
 ·rw[if_neg h1]
  by_cases h2:(!lies m a (width op))=true
  ·rw[if_pos h2];exact Fx.stop m _
  ·rw[if_neg h2]
   by_cases h3:15<=op
   ·rw[if_pos h3];exact(Fy.wrote (m:=m) (m':={m with mem:=st m.mem a.toNat (width op) b }) ⟨rfl,rfl,rfl,rfl,rfl⟩ _ _).next
   ·rw[if_neg h3];exact((Fy.refl m).setReg _ _).next
theorem Fx.ecall (m:M):Fx m (mach.ecall m):=by
 unfold mach.ecall
 dsimp only
 by_cases c1:m.regs 17=93
 ·rw[if_pos c1];exact⟨rfl,rfl,rfl,rfl,Or.inl rfl⟩
 rw[if_neg c1]
 by_cases c2:m.regs 17=64
 ·rw[if_pos c2]
  by_cases c:lies m (m.regs 11) (m.regs 12)=true
  ·rw[if_pos c];refine Fy.next (Fy.setReg ?_ _ _);exact⟨rfl,rfl,rfl,rfl,rfl⟩
  ·rw[if_neg c];exact((Fy.refl m).setReg _ _).next
 rw[if_neg c2]
 by_cases c3:m.regs 17=63
 ·rw[if_pos c3]
  by_cases c:lies m (m.regs 11) (m.regs 12)=true
  ·rw[if_pos c]
   generalize(m.ans.headD ByteArray.empty).extract 0 (min (m.ans.headD ByteArray.empty).size (m.regs 12).toNat)=t
   have hw:Fy m (mach.wrote {m with mem:=put m.mem (m.regs 11).toNat t,ans:=m.ans.tail } (m.regs 11) t.size):=Fy.wrote (m:=m) (m':={m with mem:=put m.mem (m.regs 11).toNat t,ans:=m.ans.tail }) ⟨rfl,rfl,rfl,rfl,rfl⟩ _ _
   generalize mach.wrote {m with mem:=put m.mem (m.regs 11).toNat t,ans:=m.ans.tail } (m.regs 11) t.size=q at hw
   exact(Fy.setReg (m:=m) (m':={q with evs:=m.evs++[⟨63,t.size,t⟩] }) hw 10 t.size).next
  ·rw[if_neg c];exact((Fy.refl m).setReg _ _).next
 rw[if_neg c3]
 by_cases c4:m.regs 17=214
 ·rw[if_pos c4];refine Fy.next (Fy.setReg ?_ _ _);exact⟨rfl,rfl,rfl,rfl,rfl⟩
 rw[if_neg c4];exact((Fy.refl m).setReg _ _).next
theorem Fx.exec (m:M)(x:Int):Fx m (mach.exec m x):=by
 have hs:∀v,Fx m (mach.next (mach.setReg m (qRd x) v)):=fun v=>((Fy.refl m).setReg _ _).next
 unfold mach.exec
 dsimp only
 by_cases c1:opn x=2
 ·rw[if_pos c1]
  by_cases k:(m.pc+imm x%4294967296)%4294967296%4=0
  ·rw[if_pos k];exact(Fx.goes m _).setReg _ _
  ·rw[if_neg k];exact Fx.stop m _
 rw[if_neg c1]
 by_cases c2:opn x=3
 ·rw[if_pos c2]
  by_cases k:(m.regs (qR1 x).toNat+imm x%4294967296)%4294967296/2*2%4=0
  ·rw[if_pos k];exact(Fx.goes m _).setReg _ _
  ·rw[if_neg k];exact Fx.stop m _
 rw[if_neg c2]
 by_cases c3:4<=opn x/\opn x<=9
 ·rw[if_pos c3]
  by_cases k:taken (opn x) (m.regs (qR1 x).toNat) (m.regs (qR2 x).toNat)=true
  ·rw[if_pos k];exact Fx.goes m _
  ·rw[if_neg k];exact Fx.next m
 rw[if_neg c3]
 by_cases c4:opn x=47
 ·rw[if_pos c4];exact Fx.stop m _
 rw[if_neg c4]
 by_cases c5:opn x=46
 ·rw[if_pos c5];exact Fx.ecall m
 rw[if_neg c5]
 by_cases c6:10<=opn x/\opn x<18
 ·rw[if_pos c6];exact Fx.memop m _ _ _ _
 rw[if_neg c6]
 by_cases c7:opn x=0
 ·exact X1d
 rw[if_neg c7]
 by_cases c8:opn x=1
 ·exact X1e
 rw[if_neg c8]
 by_cases c9:18<=opn x/\opn x<=26
 ·exact X1f
 rw[if_neg c9]
 by_cases c10:27<=opn x/\opn x<=44
 ·exact X1a
 rw[if_neg c10];exact Fx.next m
structure MRun (m0 m:M):Prop where
 good:MGood m
 ns:m.nslots=0
 done0:0<=m.done
 done1:m.ended=false->m.done<=m.steps
 reach:∃k,m=run k m0
 fuel:m.fuel=m0.fuel
 size:m.size=m0.size
theorem good_done'{m:M}(h:MGood m)(d:Int):MGood {m with done:=d }:=
 ⟨⟨h.fine.regs,h.fine.zero,h.fine.mem,h.fine.size,h.fine.pc,h.fine.brk,h.fine.low,h.fine.steps,h.fine.fuel,h.fine.within⟩,h.pos,h.evs,h.cur⟩
theorem lost_0'(m:M)(h:m.nslots=0):lost m=false:=by simp[lost,h]
theorem MRun.step {m0 m:M}(h:MRun m0 m)(he:m.ended=false):MRun m0 (mach.step m)/\((mach.step m).ended=true\/((mach.step m).steps=m.steps+1/\m.steps<m.fuel)):=by
 have hr:∃k,mach.step m=run k m0:=by
  exact X12
 have hstop:∀o,mach.step m=mach.stop m o->MRun m0 (mach.step m)/\((mach.step m).ended=true\/((mach.step m).steps=m.steps+1/\m.steps<m.fuel)):=by
  intro o e
  refine⟨⟨?_, ?_, ?_, ?_,hr, ?_, ?_⟩, ?_⟩<;>rw[e]
  ·exact h.good.stop o
  ·exact h.ns
  ·exact h.done0
  ·intro hc;exact Bool.noConfusion hc
  ·exact h.fuel
  ·exact h.size
  ·exact Or.inl rfl
 by_cases c1:m.fuel<=m.steps
 ·exact hstop 0 (by unfold mach.step;rw[if_pos c1])
 by_cases c2:m.pc%4≠0
 ·exact X1c
 by_cases c3:(!lies m m.pc 4)=true
 ·exact X16
 by_cases c4:opn (ld m.mem m.pc.toNat 4)=-1
 ·exact X13
 have e:mach.step m=mach.exec {m with done:=m.done+1 } (ld m.mem m.pc.toNat 4):=by
  unfold mach.step;dsimp only;rw[if_neg c1,if_neg c2,if_neg c3,if_neg c4,lost_0' m h.ns,if_neg dC]
 have hx:=Fx.exec {m with done:=m.done+1 } (ld m.mem m.pc.toNat 4)
 have hg:=(good_done' h.good (m.done+1)).exec (show m.steps<m.fuel by omega) (ld m.mem m.pc.toNat 4)
 rw[<-e]at hx hg
 obtain⟨x1,x2,x3,x4,x5⟩:=hx
 refine⟨⟨hg,(congrArg Prod.fst x3).trans h.ns, ?_, ?_,hr,x2.trans h.fuel,x4.trans h.size⟩, ?_⟩
 ·rw[x1];show 0<=m.done+1;have:=h.done0;omega
 ·intro hc
  rcases x5 with x5|x5
  ·rw[x5]at hc;cases hc
  ·rw[x1,x5];show m.done+1<=m.steps+1;have:=h.done1 he;omega
 ·rcases x5 with x5|x5
  ·exact Or.inl x5
  ·exact Or.inr ⟨x5,by omega⟩
structure BG (l:List Blk) (n:Nat):Prop where
 sorted:l.Pairwise (fun a b=>a.pc<b.pc)
 len:l.length<=n
 bd:∀x∈l,0<=x.built/\x.built<=n/\0<=x.entered/\x.entered<=n
theorem countIn_pcs(l:List Blk)(pc len b e:Int):(countIn l pc len b e).map (·.pc)=l.map (·.pc):=by
 unfold countIn
 rw[List.map_map]
 apply List.map_congr_left
 intro x _
 show(if x.pc=pc then {x with len:=if 0<b then len else x.len,built:=x.built+b,entered:=x.entered+e } else x).pc=x.pc
 by_cases c:x.pc=pc
 ·rw[if_pos c]
 ·rw[if_neg c]
theorem tw_dw(p:Blk->Bool):∀l:List Blk,(∀x∈l.takeWhile p,p x=true)/\(∀y r,l.dropWhile p=y::r->p y=false)/\(l.takeWhile p).length+(l.dropWhile p).length=l.length
 |[]=>⟨by simp,by simp,by simp⟩
 |z::q=>by
  obtain⟨h1,h2,h3⟩:=tw_dw p q
  by_cases c:p z=true
  ·refine⟨fun x hx=> ?_,fun y r hy=> ?_, ?_⟩
   ·rw[List.takeWhile_cons_of_pos c]at hx
    rcases List.mem_cons.1 hx with rfl|hx
    ·exact c
    ·exact h1 x hx
   ·rw[List.dropWhile_cons_of_pos c]at hy;exact h2 y r hy
   ·rw[List.takeWhile_cons_of_pos c,List.dropWhile_cons_of_pos c];simp;omega
  ·refine⟨fun x hx=> ?_,fun y r hy=> ?_, ?_⟩
   ·rw[List.takeWhile_cons_of_neg c]at hx;cases hx
   ·rw[List.dropWhile_cons_of_neg c]at hy
    injection hy with hy _
    rw[<-hy];simpa using c
   ·rw[List.takeWhile_cons_of_neg c,List.dropWhile_cons_of_neg c];simp
theorem BG.count {l:List Blk}{n:Nat}(h:BG l n)(pc len b e:Int)(b0:0<=b)(b1:b<=1)(e0:0<=e)(e1:e<=1):BG (count l pc len b e) (n+1):=by
 unfold mach.count
 by_cases c:(l.any fun k=>k.pc==pc)=true
 ·rw[if_pos c]
  refine⟨?_, ?_,fun x hx=> ?_⟩
  ·have h1:((countIn l pc len b e).map (·.pc)).Pairwise (·<·):=by rw[countIn_pcs];exact List.pairwise_map.2 h.sorted
   exact List.pairwise_map.1 h1
  ·unfold countIn;rw[List.length_map];have:=h.len;omega
  ·unfold countIn at hx
   obtain⟨y,hy,rfl⟩:=List.mem_map.1 hx
   obtain⟨u1,u2,u3,u4⟩:=h.bd y hy
   by_cases q:y.pc=pc
   ·rw[if_pos q];exact⟨by show 0<=y.built+b;omega,by show y.built+b<=_;omega,by show 0<=y.entered+e;omega,by show y.entered+e<=_;omega⟩
   ·rw[if_neg q];exact⟨u1,by omega,u3,by omega⟩
 ·rw[if_neg c]
  have hno:∀x∈l,¬x.pc=pc:=by
   intro x hx q
   apply c
   rw[List.any_eq_true]
   exact⟨x,hx,by simp[q]⟩
  have split:l.takeWhile (fun k=>decide (k.pc<pc))++l.dropWhile (fun k=>decide (k.pc<pc))=l:=List.takeWhile_append_dropWhile
  have mem:∀x,x∈l.takeWhile (fun k=>decide (k.pc<pc))++l.dropWhile (fun k=>decide (k.pc<pc))->x∈l:=fun x hx=>split ▸ hx
  have hs:(l.takeWhile (fun k=>decide (k.pc<pc))++l.dropWhile (fun k=>decide (k.pc<pc))).Pairwise (fun a b=>a.pc<b.pc):=split.symm ▸ h.sorted
  rw[List.pairwise_append]at hs
  obtain⟨s1,s2,s3⟩:=hs
  obtain⟨t1,t2,t3⟩:=tw_dw (fun k=>decide (k.pc<pc)) l
  have lo:∀x∈l.takeWhile (fun k=>decide (k.pc<pc)),x.pc<pc:=by
   intro x hx
   have:=t1 x hx
   simpa using this
  have hi:∀x∈l.dropWhile (fun k=>decide (k.pc<pc)),pc<x.pc:=by
   intro x hx
   have hne:=hno x (mem x (List.mem_append.2 (Or.inr hx)))
   have hge:¬x.pc<pc:=by
    intro q
    cases hd:l.dropWhile (fun k=>decide (k.pc<pc))with
    |nil=>rw[hd]at hx;cases hx
    |cons y r=>
     have hy:¬y.pc<pc:=by
      have:=t2 y r hd
      simpa using this
     rw[hd]at hx s2
     rcases List.mem_cons.1 hx with rfl|hx2
     ·exact hy q
     ·have:=(List.pairwise_cons.1 s2).1 x hx2;omega
   omega
  refine⟨?_, ?_,fun x hx=> ?_⟩
  ·rw[List.pairwise_append]
   refine⟨s1,List.pairwise_cons.2 ⟨fun x hx=>hi x hx,s2⟩,fun x hx y hy=> ?_⟩
   rcases List.mem_cons.1 hy with rfl|hy
   ·exact lo x hx
   ·exact s3 x hx y hy
  ·have:=h.len
   rw[List.length_append,List.length_cons]
   omega
  ·rw[List.mem_append]at hx
   rcases hx with hx|hx
   ·obtain⟨u1,u2,u3,u4⟩:=h.bd x (mem x (List.mem_append.2 (Or.inl hx)));exact⟨u1,by omega,u3,by omega⟩
   ·rcases List.mem_cons.1 hx with rfl|hx
    ·exact⟨b0,by show b<=_;omega,e0,by show e<=_;omega⟩
    ·obtain⟨u1,u2,u3,u4⟩:=h.bd x (mem x (List.mem_append.2 (Or.inr hx)));exact⟨u1,by omega,u3,by omega⟩
def bsum (l:List Blk):Int:=(l.map (·.built)).sum
def hasB (l:List Blk) (pc:Int):Bool:=l.any fun k=>k.pc==pc
def at0 (l:List Blk) (pc:Int):Blk:=(l.find? fun k=>k.pc==pc).getD ⟨0,0,0,0⟩
def insB:List Blk->Blk->List Blk
 |[],y=>[y]
 |x::r,y=>if x.pc<y.pc then x::insB r y else if x.pc=y.pc then y::r else y::x::r
theorem noB:∀{l:List Blk} {pc:Int},(∀x∈l,pc<x.pc)->hasB l pc=false/\(l.find? fun k=>k.pc==pc)=none
 |[],_,_=>⟨rfl,rfl⟩
 |x::r,pc,h=>by
  have e:(x.pc==pc)=false:=by have:=h x sP;simp;omega
  obtain⟨i1,i2⟩:=noB (l:=r) (pc:=pc) (fun y hy=>h y (by simp[hy]))
  exact⟨by unfold hasB at*;rw[List.any_cons,e,i1];rfl,by rw[List.find?_cons,e];exact i2⟩
theorem countIn_no:∀{l:List Blk} {pc:Int} (len b e:Int),(∀x∈l,pc<x.pc)->countIn l pc len b e=l
 |[],_,_,_,_,_=>rfl
 |x::r,pc,len,b,e,h=>by
  have hx:=h x sP
  have i:=countIn_no (l:=r) len b e (fun y hy=>h y (by simp[hy]))
  unfold countIn at*
  rw[List.map_cons,if_neg oM,i]
theorem count_eq:∀{l:List Blk} (pc len b e:Int),l.Pairwise (fun a b=>a.pc<b.pc)->mach.count l pc len b e=insB l ⟨pc,if hasB l pc&& !decide (0<b)then(at0 l pc).len else len,(at0 l pc).built+b,(at0 l pc).entered+e⟩/\bsum (mach.count l pc len b e)=bsum l+b
 |[],pc,len,b,e,_=>by simp[mach.count,insB,hasB,at0,bsum]
 |x::r,pc,len,b,e,h=>by
  obtain⟨h1,h2⟩:=List.pairwise_cons.1 h
  obtain⟨i1,i2⟩:=count_eq (l:=r) pc len b e h2
  rcases Int.lt_trichotomy x.pc pc with c|c|c
  ·have q:(x.pc==pc)=false:=by simp;omega
   have e1:mach.count (x::r) pc len b e=x::mach.count r pc len b e:=by
    unfold mach.count
    rw[List.any_cons,q,Bool.false_or]
    by_cases k:(r.any fun k=>k.pc==pc)=true
    ·rw[if_pos k,if_pos k];unfold countIn;rw[List.map_cons,if_neg oM]
    ·rw[if_neg k,if_neg k,List.takeWhile_cons_of_pos (by simpa using c),List.dropWhile_cons_of_pos (by simpa using c)];rfl
   have e2:hasB (x::r) pc=hasB r pc:=by unfold hasB;rw[List.any_cons,q];rfl
   have e3:at0 (x::r) pc=at0 r pc:=by unfold at0;rw[List.find?_cons,q]
   rw[e1,e2,e3]
   refine⟨by rw[insB,if_pos c,<-i1], ?_⟩
   unfold bsum at*
   rw[List.map_cons,List.sum_cons,i2,List.map_cons,List.sum_cons];omega
  ·have q:(x.pc==pc)=true:=by simpa using c
   have e1:mach.count (x::r) pc len b e={x with len:=if 0<b then len else x.len,built:=x.built+b,entered:=x.entered+e }::r:=by
    unfold mach.count
    rw[List.any_cons,q,Bool.true_or,if_pos rfl]
    have:=countIn_no (l:=r) (pc:=pc) len b e (fun y hy=>by have:=h1 y hy;omega)
    unfold countIn at*
    rw[List.map_cons,this,if_pos c]
   have e2:hasB (x::r) pc=true:=by unfold hasB;rw[List.any_cons,q];rfl
   have e3:at0 (x::r) pc=x:=by unfold at0;rw[List.find?_cons,q];rfl
   rw[e1,e2,e3]
   refine⟨?_,by unfold bsum;simp;omega⟩
   have:(if true&& !decide (0<b)then x.len else len)=if 0<b then len else x.len:=by by_cases k:0<b<;>simp[k]
   rw[this,<-c]
   simp[insB]
  ·have hn:∀y∈x::r,pc<y.pc:=fun y hy=>by
    rcases List.mem_cons.1 hy with rfl|hy
    ·exact c
    ·have:=h1 y hy;omega
   obtain⟨n1,n2⟩:=noB hn
   have e3:at0 (x::r) pc=⟨0,0,0,0⟩:=by unfold at0;rw[n2];rfl
   have e1:mach.count (x::r) pc len b e=⟨pc,len,b,e⟩::x::r:=by
    unfold mach.count
    unfold hasB at n1
    rw[n1,if_neg dC,List.takeWhile_cons_of_neg (by simp;omega),List.dropWhile_cons_of_neg (by simp;omega)];rfl
   rw[e1,e3,n1]
   refine⟨?_,by unfold bsum;simp;omega⟩
   rw[insB,if_neg (by show ¬x.pc<pc;omega),if_neg (by show ¬x.pc=pc;omega)]
   simp
theorem count_sorted{l:List Blk}(h:l.Pairwise (fun a b=>a.pc<b.pc))(pc len b e:Int):(mach.count l pc len b e).Pairwise (fun a b=>a.pc<b.pc):=by
 rw[(count_eq pc len b e h).1]
 generalize hy:(⟨pc,_,_,_⟩:Blk)=y
 clear hy
 have mem:∀(l:List Blk) (z:Blk),z∈insB l y->z=y\/z∈l:=by
  intro l
  induction l with
  |nil=>intro z hz;simpa [insB]using hz
  |cons x r ih=>
   intro z hz
   unfold insB at hz
   split at hz
   ·rcases List.mem_cons.1 hz with rfl|hz
    ·exact Or.inr sP
    ·rcases ih z hz with e|e
     ·exact Or.inl e
     ·exact Or.inr (by simp[e])
   ·split at hz<;>simp at hz ⊢<;>grind
 induction l with
 |nil=>simp[insB]
 |cons x r ih=>
  obtain⟨h1,h2⟩:=List.pairwise_cons.1 h
  unfold insB
  split
  ·rename_i c
   refine List.pairwise_cons.2 ⟨fun z hz=> ?_,ih h2⟩
   rcases mem r z hz with rfl|e
   ·exact c
   ·exact h1 z e
  ·split
   ·rename_i c d
    exact List.pairwise_cons.2 ⟨fun z hz=>by have:=h1 z hz;omega,h2⟩
   ·rename_i c d
    refine List.pairwise_cons.2 ⟨fun z hz=> ?_,h⟩
    rcases List.mem_cons.1 hz with rfl|hz
    ·omega
    ·have:=h1 z hz;omega
theorem hasB_pcs(l:List Blk)(q:Int):hasB l q=(l.map (·.pc)).contains q:=by
 unfold hasB
 induction l with
 |nil=>rfl
 |cons x r ih=>rw[List.any_cons,ih,List.map_cons,List.contains_cons,Bool.beq_comm]
theorem hasB_count(l:List Blk)(pc len b e q:Int):hasB (mach.count l pc len b e) q=(hasB l q||q==pc):=by
 by_cases c:(l.any fun k=>k.pc==pc)=true
 ·have e1:hasB (mach.count l pc len b e) q=hasB l q:=by
   unfold mach.count;rw[if_pos c,hasB_pcs,hasB_pcs,countIn_pcs]
  rw[e1]
  by_cases d:q=pc
  ·subst d;unfold hasB;rw[c];rfl
  ·have:(q==pc)=false:=by simpa using d
   rw[this,Bool.or_false]
 ·unfold mach.count
  rw[if_neg c]
  unfold hasB
  rw[List.any_append,List.any_cons,Bool.or_left_comm,<-List.any_append,List.takeWhile_append_dropWhile,Bool.or_comm]
  congr 1
  by_cases d:q=pc
  ·subst d;simp
  ·rw[show(q==pc)=false by simpa using d];simp;exact fun h=>d h.symm
theorem blockLen_bd(mem:Nat->Int):∀(k:Nat) (pc:Int),0<=blockLen mem k pc/\blockLen mem k pc<=k
 |0,_=>⟨Int.le_refl _,Int.le_refl _⟩
 |k+1,pc=>by
  simp only[blockLen]
  by_cases c:opn (ld mem pc.toNat 4)=-1
  ·rw[if_pos c];omega
  ·rw[if_neg c]
   by_cases d:(ends (opn (ld mem pc.toNat 4))||(pc+4)%64==0)=true
   ·rw[if_pos d];omega
   ·rw[if_neg d]
    have:=blockLen_bd mem k (pc+4)
    omega
def built (m:M):M:=
 let k:=(m.pc/4).toNat%m.nslots
 let n:=blockLen m.mem 8 m.pc
 let full:=decide (m.arena<m.used+n)
 let old:=if full then fun _=>((0:Int),(0:Int))else m.slots
 {m with slots:=fun i=>if i=k then(m.pc,n)else old i,used:=(if full then 0 else m.used)+n,built:=m.built+1,blocks:=mach.count m.blocks m.pc n 1 0 }
def enter (m:M) (p:Int × Int):M:={m with cur:=p,done:=0,blocks:=mach.count m.blocks p.1 p.2 0 1 }
theorem find_build(m:M)(h:(m.slots ((m.pc/4).toNat%m.nslots)).2=0\/(m.slots ((m.pc/4).toNat%m.nslots)).1≠m.pc):find m=enter (built m) (m.pc,blockLen m.mem 8 m.pc):=by
 unfold find
 dsimp only
 rw[if_pos h]
 rfl
theorem find_enter(m:M)(h:¬((m.slots ((m.pc/4).toNat%m.nslots)).2=0\/(m.slots ((m.pc/4).toNat%m.nslots)).1≠m.pc)):find m=enter m (m.slots ((m.pc/4).toNat%m.nslots)):=by
 unfold find
 dsimp only
 rw[if_neg h]
 rfl
end mach
namespace mach
open RowKit IntWalk nums dnums
structure Kx (m m':M) (f:Int->Bool):Prop where
 slots:∀i,m'.slots i=if f (m.slots i).1 then(0,0)else m.slots i
 mem:∀(a:Int) (i:Nat),f a=false->(i:Int)/64=a/64->m'.mem i=m.mem i
 cur:m'.cur=(0,0)\/m'.cur=if f m.cur.1 then(0,0)else m.cur
 ns:m'.nslots=m.nslots
 ar:m'.arena=m.arena
 us:m'.used=m.used
 bu:m'.built=m.built
 bl:m'.blocks=m.blocks
 sz:m'.size=m.size
 dn:m'.done=m.done
 st:m.steps<=m'.steps
def Nx (m m':M) (f:Int->Bool):Prop:=m'.ended=true\/(m'.pc=(m.pc+4)%4294967296/\m'.cur=if f m.cur.1 then(0,0)else m.cur)
def nof:Int->Bool:=fun _=>false
theorem kx_stop(m:M)(o:Int):Kx m (stop m o) nof:=⟨fun _=>rfl,fun _ _ _ _=>rfl,Or.inr rfl,rfl,rfl,rfl,rfl,rfl,rfl,rfl,Int.le_refl _⟩
theorem kx_next{m m':M}{f:Int->Bool}(h:Kx m m' f):Kx m (next m') f:=⟨h.slots,h.mem,h.cur,h.ns,h.ar,h.us,h.bu,h.bl,h.sz,h.dn,by show m.steps<=m'.steps+1;have:=h.st;omega⟩
theorem kx_refl(m:M):Kx m m nof:=⟨fun _=>rfl,fun _ _ _ _=>rfl,Or.inr rfl,rfl,rfl,rfl,rfl,rfl,rfl,rfl,Int.le_refl _⟩
theorem setReg_k(m:M)(r v:Int):(setReg m r v).slots=m.slots/\(setReg m r v).mem=m.mem/\(setReg m r v).cur=m.cur/\(setReg m r v).nslots=m.nslots/\(setReg m r v).arena=m.arena/\(setReg m r v).used=m.used/\(setReg m r v).built=m.built/\(setReg m r v).blocks=m.blocks/\(setReg m r v).size=m.size/\(setReg m r v).done=m.done/\(setReg m r v).pc=m.pc/\(setReg m r v).steps=m.steps:=by
 unfold setReg;by_cases e:r=0
 ·rw[if_pos e];simp
 ·rw[if_neg e];simp
theorem kx_setReg{m m':M}{f:Int->Bool}(h:Kx m m' f)(r v:Int):Kx m (setReg m' r v) f:=by
 obtain⟨k1,k2,k3,k4,k5,k6,k7,k8,k9,k10,_,k12⟩:=setReg_k m' r v
 exact⟨fun i=>by rw[k1];exact h.slots i,fun a i h1 h2=>by rw[k2];exact h.mem a i h1 h2,by rw[k3];exact h.cur,k4.trans h.ns,k5.trans h.ar,k6.trans h.us,k7.trans h.bu,k8.trans h.bl,k9.trans h.sz,k10.trans h.dn,by rw[k12];exact h.st⟩
theorem kx_goes(m:M)(to:Int):Kx m (goes m to) nof:=by
 unfold goes
 by_cases e:to%4=0
 ·rw[if_pos e];exact⟨fun _=>rfl,fun _ _ _ _=>rfl,Or.inl rfl,rfl,rfl,rfl,rfl,rfl,rfl,rfl,by show m.steps<=m.steps+1;omega⟩
 ·rw[if_neg e];exact kx_stop m 3
theorem nx_set(m:M)(r v:Int):Nx m (next (setReg m r v)) nof:=by
 obtain⟨k1,k2,k3,k4,k5,k6,k7,k8,k9,k10,k11,_⟩:=setReg_k m r v
 refine Or.inr ⟨?_, ?_⟩
 ·show((setReg m r v).pc+4)%4294967296=_;rw[k11]
 ·show(setReg m r v).cur=_;rw[k3];rfl
def hitf (a n:Int):Int->Bool:=fun p=>decide (a/64<=p/64/\p/64<=(a+n-1)/64)
theorem kx_wrote(m:M)(g:Nat->Int)(l:List ByteArray)(e:List Ev)(a n:Int)(a0:0<=a)(n0:0<=n)(hg:∀i:Nat,¬(a<=i/\(i:Int)<a+n)->g i=m.mem i):
  Kx m {wrote {m with mem:=g,ans:=l } a n with evs:=e } (if n=0 then nof else hitf a n)/\(wrote {m with mem:=g,ans:=l } a n).cur=(if(if n=0 then nof else hitf a n) m.cur.1 then(0,0)else m.cur)/\(wrote {m with mem:=g,ans:=l } a n).pc=m.pc/\(wrote {m with mem:=g,ans:=l } a n).ended=m.ended:=by
 unfold wrote
 by_cases c:n=0
 ·subst c
  rw[if_pos rfl,if_pos rfl]
  exact⟨⟨fun _=>rfl,fun p i _ _=>hg i oM,Or.inr rfl,rfl,rfl,rfl,rfl,rfl,rfl,rfl,Int.le_refl _⟩,rfl,rfl,rfl⟩
 ·rw[if_neg c,if_neg c]
  refine⟨⟨fun _=>rfl,fun p i h1 h2=>hg i (fun h3=> ?_),Or.inr rfl,rfl,rfl,rfl,rfl,rfl,rfl,rfl,Int.le_refl _⟩,rfl,rfl,rfl⟩
  simp[hitf]at h1
  omega
theorem kx_memop(m:M)(op rd a b:Int)(a0:0<=a):∃f,Kx m (memop m op rd a b) f/\Nx m (memop m op rd a b) f:=by
 unfold memop
 dsimp only
 by_cases h1:a%(width op)≠0
 ·rw[if_pos h1];exact⟨nof,kx_stop m _,Or.inl rfl⟩
 rw[if_neg h1]
 by_cases h2:(!lies m a (width op))=true
 ·rw[if_pos h2];exact⟨nof,kx_stop m _,Or.inl rfl⟩
 rw[if_neg h2]
 by_cases h3:15<=op
 ·rw[if_pos h3]
  obtain⟨k1,k2,k3,k4⟩:=kx_wrote m (st m.mem a.toNat (width op) b) m.ans m.evs a (width op) a0 oM (fun i hi=>by unfold st;rw[if_neg oM])
  have e:({wrote {m with mem:=st m.mem a.toNat (width op) b,ans:=m.ans } a (width op)with evs:=m.evs }:M)=wrote {m with mem:=st m.mem a.toNat (width op) b } a (width op):=by
   unfold wrote
   by_cases c:((width op:Nat):Int)=0
   ·simp only[if_pos c]
   ·simp only[if_neg c]
  rw[e]at k1
  exact⟨_,kx_next k1,Or.inr ⟨by show((wrote _ _ _).pc+4)%4294967296=_;rw[k3],k2⟩⟩
 ·rw[if_neg h3];exact⟨nof,kx_next (kx_setReg (kx_refl m) _ _),nx_set m _ _⟩
theorem kx_ecall(m:M)(hf:Fine m):∃f,Kx m (ecall m) f:=by
 unfold ecall
 dsimp only
 by_cases c1:m.regs 17=93
 ·rw[if_pos c1];exact⟨nof,⟨fun _=>rfl,fun _ _ _ _=>rfl,Or.inr rfl,rfl,rfl,rfl,rfl,rfl,rfl,rfl,by show m.steps<=m.steps+1;omega⟩⟩
 rw[if_neg c1]
 by_cases c2:m.regs 17=64
 ·rw[if_pos c2]
  by_cases c:lies m (m.regs 11) (m.regs 12)=true
  ·rw[if_pos c];refine⟨nof,kx_next (kx_setReg (m:=m) ?_ _ _)⟩;exact⟨fun _=>rfl,fun _ _ _ _=>rfl,Or.inr rfl,rfl,rfl,rfl,rfl,rfl,rfl,rfl,Int.le_refl _⟩
  ·exact X18
 rw[if_neg c2]
 by_cases c3:m.regs 17=63
 ·rw[if_pos c3]
  by_cases c:lies m (m.regs 11) (m.regs 12)=true
  ·rw[if_pos c]
   generalize(m.ans.headD ByteArray.empty).extract 0 (min (m.ans.headD ByteArray.empty).size (m.regs 12).toNat)=t
   have p0:=(hf.regs 11).1
   obtain⟨k1,_⟩:=kx_wrote m (put m.mem (m.regs 11).toNat t) m.ans.tail (m.evs++[⟨63,t.size,t⟩]) (m.regs 11) t.size p0 oM (fun i hi=>by unfold put;rw[if_neg oM])
   exact⟨_,kx_next (kx_setReg k1 _ _)⟩
  ·exact X18
 rw[if_neg c3]
 by_cases c4:m.regs 17=214
 ·rw[if_pos c4];refine⟨nof,kx_next (kx_setReg (m:=m) ?_ _ _)⟩;exact⟨fun _=>rfl,fun _ _ _ _=>rfl,Or.inr rfl,rfl,rfl,rfl,rfl,rfl,rfl,rfl,Int.le_refl _⟩
 rw[if_neg c4];exact⟨nof,kx_next (kx_setReg (kx_refl m) _ _)⟩
theorem kx_exec(m:M)(x:Int)(hf:Fine m):∃f,Kx m (exec m x) f/\(ends (opn x)=false->Nx m (exec m x) f):=by
 have hs:∀v,∃f,Kx m (next (setReg m (qRd x) v)) f/\(ends (opn x)=false->Nx m (next (setReg m (qRd x) v)) f):=fun v=>⟨nof,kx_next (kx_setReg (kx_refl m) _ _),fun _=>nx_set m _ _⟩
 unfold exec
 dsimp only
 by_cases c1:opn x=2
 ·rw[if_pos c1]
  by_cases k:(m.pc+imm x%4294967296)%4294967296%4=0
  ·rw[if_pos k];exact⟨nof,kx_setReg (kx_goes m _) _ _,fun h=>by rw[c1]at h;simp[ends]at h⟩
  ·exact X19
 rw[if_neg c1]
 by_cases c2:opn x=3
 ·rw[if_pos c2]
  by_cases k:(m.regs (qR1 x).toNat+imm x%4294967296)%4294967296/2*2%4=0
  ·rw[if_pos k];exact⟨nof,kx_setReg (kx_goes m _) _ _,fun h=>by rw[c2]at h;simp[ends]at h⟩
  ·exact X19
 rw[if_neg c2]
 by_cases c3:4<=opn x/\opn x<=9
 ·rw[if_pos c3]
  have he:ends (opn x)=true:=by simp[ends];omega
  by_cases k:taken (opn x) (m.regs (qR1 x).toNat) (m.regs (qR2 x).toNat)=true
  ·rw[if_pos k];exact⟨nof,kx_goes m _,fun h=>by rw[he]at h;cases h⟩
  ·rw[if_neg k];exact⟨nof,kx_next (kx_refl m),fun h=>by rw[he]at h;cases h⟩
 rw[if_neg c3]
 by_cases c4:opn x=47
 ·rw[if_pos c4];exact⟨nof,kx_stop m _,fun _=>Or.inl rfl⟩
 rw[if_neg c4]
 by_cases c5:opn x=46
 ·rw[if_pos c5]
  obtain⟨f,hk⟩:=kx_ecall m hf
  exact⟨f,hk,fun h=>by rw[c5]at h;simp[ends]at h⟩
 rw[if_neg c5]
 by_cases c6:10<=opn x/\opn x<18
 ·rw[if_pos c6]
  obtain⟨f,h1,h2⟩:=kx_memop m (opn x) (qRd x) ((m.regs (qR1 x).toNat+imm x%4294967296)%4294967296) (m.regs (qR2 x).toNat) oM
  exact⟨f,h1,fun _=>h2⟩
 rw[if_neg c6]
 by_cases c7:opn x=0
 ·exact X1d
 rw[if_neg c7]
 by_cases c8:opn x=1
 ·exact X1e
 rw[if_neg c8]
 by_cases c9:18<=opn x/\opn x<=26
 ·exact X1f
 rw[if_neg c9]
 by_cases c10:27<=opn x/\opn x<=44
 ·exact X1a
 rw[if_neg c10];exact⟨nof,kx_next (kx_refl m),fun _=>Or.inr ⟨rfl,rfl⟩⟩
theorem ld_congr(mem mem':Nat->Int)(a:Nat):∀n,(∀j,j<n->mem' (a+j)=mem (a+j))->ld mem' a n=ld mem a n
 |0,_=>rfl
 |n+1,h=>by simp only[ld];rw[ld_congr mem mem' a n (fun j hj=>h j oM),h n oM]
theorem word_page(mem mem':Nat->Int)(q a:Int)(a0:0<=a)(a4:a%4=0)(hq:a/64=q/64)(h:∀i:Nat,(i:Int)/64=q/64->mem' i=mem i):ld mem' a.toNat 4=ld mem a.toNat 4:=
 ld_congr mem mem' _ 4 (fun j hj=>h _ oM)
theorem blockLen_page(mem mem':Nat->Int)(q:Int)(h:∀i:Nat,(i:Int)/64=q/64->mem' i=mem i):∀(k:Nat) (a:Int),0<=a->a%4=0->a/64=q/64->blockLen mem' k a=blockLen mem k a
 |0,_,_,_,_=>rfl
 |k+1,a,a0,a4,hq=>by
  simp only[blockLen]
  rw[word_page mem mem' q a a0 a4 hq h]
  by_cases c:opn (ld mem a.toNat 4)=-1
  ·rw[if_pos c,if_pos c]
  ·rw[if_neg c,if_neg c]
   by_cases d:(ends (opn (ld mem a.toNat 4))||(a+4)%64==0)=true
   ·rw[if_pos d,if_pos d]
   ·rw[if_neg d,if_neg d]
    have d2:¬(a+4)%64=0:=by simp at d;exact d.2
    rw[blockLen_page mem mem' q h k (a+4) oM oM oM]
theorem blockLen_at(mem:Nat->Int):∀(k:Nat) (a:Int) (j:Nat),(j:Int)<blockLen mem k a->opn (ld mem (a+4*j).toNat 4)≠-1/\((j:Int)+1<blockLen mem k a->ends (opn (ld mem (a+4*j).toNat 4))=false/\¬(a+4*j+4)%64=0)
 |0,_,j,h=>by simp only[blockLen]at h;omega
 |k+1,a,j,h=>by
  simp only[blockLen]at h ⊢
  by_cases c:opn (ld mem a.toNat 4)=-1
  ·rw[if_pos c]at h;omega
  ·rw[if_neg c]at h ⊢
   by_cases d:(ends (opn (ld mem a.toNat 4))||(a+4)%64==0)=true
   ·rw[if_pos d]at h ⊢
    obtain rfl:j=0:=by omega
    simp only[Int.natCast_zero,Int.mul_zero,Int.add_zero]
    exact⟨c,fun h2=>by omega⟩
   ·rw[if_neg d]at h ⊢
    cases j with
    |zero=>
     simp only[Int.natCast_zero,Int.mul_zero,Int.add_zero]
     exact⟨c,fun _=>by simpa using d⟩
    |succ j=>
     have:=blockLen_at mem k (a+4) j oM
     rw[show a+4*((j+1:Nat):Int)=a+4+4*(j:Int)by omega]
     exact⟨this.1,fun h2=>this.2 oM⟩
theorem blockLen_in(mem:Nat->Int)(k:Nat)(a:Int)(a4:a%4=0):∀j:Nat,(j:Int)<blockLen mem k a->(a+4*j)/64=a/64
 |0,_=>by simp
 |j+1,h=>by
  have h1:=blockLen_in mem k a a4 j oM
  have h2:=((blockLen_at mem k a j oM).2 oM).2
  omega
structure BlkOK (m:M) (i:Nat) (p:Int × Int):Prop where
 a0:0<=p.1
 a4:p.1%4=0
 lies:p.1+4<=m.size
 slot:(p.1/4).toNat%m.nslots=i
 pos:0<p.2
 len:p.2=blockLen m.mem 8 p.1
structure SInv (m:M):Prop where
 s64:m.size%64=0
 slot:∀i,i<m.nslots->m.slots i=(0,0)\/BlkOK m i (m.slots i)
theorem BlkOK.at {m:M}{i:Nat}{p:Int × Int}(h:BlkOK m i p)(h64:m.size%64=0)(j:Nat)(hj:(j:Int)<p.2):
  opn (ld m.mem (p.1+4*j).toNat 4)≠-1/\p.1+4*j+4<=m.size/\((j:Int)+1<p.2->ends (opn (ld m.mem (p.1+4*j).toNat 4))=false):=by
 have hl:=h.len
 have h1:=blockLen_at m.mem 8 p.1 j oM
 have h2:=blockLen_in m.mem 8 p.1 h.a4 j oM
 have:=h.lies
 have:=h.a4
 exact⟨h1.1,by omega,fun h3=>(h1.2 oM).1⟩
theorem BlkOK.le8 {m:M}{i:Nat}{p:Int × Int}(h:BlkOK m i p):p.2<=8:=by
 have:=(blockLen_bd m.mem 8 p.1).2
 have:=h.len
 omega
theorem SInv.kx {m m':M}{f:Int->Bool}(h:SInv m)(k:Kx m m' f):SInv m':=by
 refine⟨by rw[k.sz];exact h.s64,fun i hi=> ?_⟩
 rw[k.ns]at hi
 rw[k.slots i]
 cases hf:f (m.slots i).1 with
 |true=>exact Or.inl rfl
 |false=>
  rw[if_neg dC]
  rcases h.slot i hi with e|e
  ·exact Or.inl e
  ·exact Or.inr ⟨e.a0,e.a4,by rw[k.sz];exact e.lies,by rw[k.ns];exact e.slot,e.pos,e.len.trans (blockLen_page m.mem m'.mem (m.slots i).1 (fun j hj=>k.mem _ j hf hj) 8 _ e.a0 e.a4 rfl).symm⟩
structure InB (m:M) (a n:Int) (j:Nat):Prop where
 cur:m.cur=(a,n)
 slot:m.slots ((a/4).toNat%m.nslots)=(a,n)
 done:m.done=j
 pc:m.pc=a+4*j
theorem blockLen_pos(mem:Nat->Int)(a:Int)(h:opn (ld mem a.toNat 4)≠-1):0<blockLen mem 8 a:=by
 simp only[blockLen]
 rw[if_neg h]
 by_cases d:(ends (opn (ld mem a.toNat 4))||(a+4)%64==0)=true
 ·rw[if_pos d];omega
 ·rw[if_neg d]
  have:=(blockLen_bd mem 7 (a+4)).1
  simp only[blockLen]at this
  omega
theorem find_f(m:M):(find m).regs=m.regs/\(find m).pc=m.pc/\(find m).brk=m.brk/\(find m).evs=m.evs/\(find m).steps=m.steps/\(find m).mem=m.mem/\(find m).size=m.size/\(find m).low=m.low/\(find m).ans=m.ans/\(find m).fuel=m.fuel/\(find m).ended=m.ended/\(find m).nslots=m.nslots/\(find m).arena=m.arena/\(find m).out=m.out:=by
 unfold find
 dsimp only
 by_cases c:(m.slots ((m.pc/4).toNat%m.nslots)).2=0\/(m.slots ((m.pc/4).toNat%m.nslots)).1≠m.pc
 ·rw[if_pos c];simp
 ·rw[if_neg c];simp
theorem BlkOK.congr {m m':M}{i:Nat}{p:Int × Int}(h:BlkOK m i p)(e1:m'.mem=m.mem)(e2:m'.size=m.size)(e3:m'.nslots=m.nslots):BlkOK m' i p:=
 ⟨h.a0,h.a4,by rw[e2];exact h.lies,by rw[e3];exact h.slot,h.pos,by rw[e1];exact h.len⟩
theorem find_in{m:M}(h:SInv m)(hn:0<m.nslots)(p0:0<=m.pc)(p4:m.pc%4=0)(pl:m.pc+4<=m.size)(hx:opn (ld m.mem m.pc.toNat 4)≠-1):
  SInv (find m)/\InB (find m) m.pc (blockLen m.mem 8 m.pc) 0/\BlkOK m ((m.pc/4).toNat%m.nslots) (m.pc,blockLen m.mem 8 m.pc):=by
 have hk:(m.pc/4).toNat%m.nslots<m.nslots:=Nat.mod_lt _ hn
 have hb:BlkOK m ((m.pc/4).toNat%m.nslots) (m.pc,blockLen m.mem 8 m.pc):=⟨p0,p4,pl,rfl,blockLen_pos m.mem m.pc hx,rfl⟩
 refine⟨?_, ?_,hb⟩
 ·obtain⟨f1,f2,f3,f4,f5,f6,f7,f8,f9,f10,f11,f12,f13,f14⟩:=find_f m
  refine⟨by rw[f7];exact h.s64,fun i hi=> ?_⟩
  rw[f12]at hi
  by_cases c:(m.slots ((m.pc/4).toNat%m.nslots)).2=0\/(m.slots ((m.pc/4).toNat%m.nslots)).1≠m.pc
  ·rw[find_build m c]at f6 f7 f12 ⊢
   show(if i=(m.pc/4).toNat%m.nslots then(m.pc,blockLen m.mem 8 m.pc)else(if decide (m.arena<m.used+blockLen m.mem 8 m.pc)then fun _=>((0:Int),(0:Int))else m.slots) i)=(0,0)\/BlkOK _ i (if i=(m.pc/4).toNat%m.nslots then(m.pc,blockLen m.mem 8 m.pc)else(if decide (m.arena<m.used+blockLen m.mem 8 m.pc)then fun _=>((0:Int),(0:Int))else m.slots) i)
   by_cases e:i=(m.pc/4).toNat%m.nslots
   ·rw[if_pos e];subst e;exact Or.inr (hb.congr f6 f7 f12)
   ·rw[if_neg e]
    by_cases d:decide (m.arena<m.used+blockLen m.mem 8 m.pc)=true
    ·rw[if_pos d];exact Or.inl rfl
    ·rw[if_neg d]
     exact X15
  ·rw[find_enter m c]at f6 f7 f12 ⊢
   exact X15
 ·by_cases c:(m.slots ((m.pc/4).toNat%m.nslots)).2=0\/(m.slots ((m.pc/4).toNat%m.nslots)).1≠m.pc
  ·rw[find_build m c]
   exact⟨rfl,by show(if(m.pc/4).toNat%m.nslots=(m.pc/4).toNat%m.nslots then _ else _)=_;rw[if_pos rfl],rfl,by show m.pc=m.pc+4*((0:Nat):Int);simp⟩
  ·rw[find_enter m c]
   have c2:(m.slots ((m.pc/4).toNat%m.nslots)).1=m.pc/\¬(m.slots ((m.pc/4).toNat%m.nslots)).2=0:=by
    constructor
    ·exact Classical.byContradiction fun q=>c (Or.inr q)
    ·exact fun q=>c (Or.inl q)
   have e:m.slots ((m.pc/4).toNat%m.nslots)=(m.pc,blockLen m.mem 8 m.pc):=by
    rcases h.slot _ hk with q|q
    ·rw[q]at c2;exact absurd rfl c2.2
    ·have:=q.len
     rw[c2.1]at this
     exact Prod.ext c2.1 this
   exact⟨e,by show m.slots ((m.pc/4).toNat%m.nslots)=_;exact e,rfl,by show m.pc=m.pc+4*((0:Nat):Int);simp⟩
theorem in_exec{q:M}{a n:Int}{j:Nat}(h:InB q a n j)(hb:BlkOK q ((a/4).toNat%q.nslots) (a,n))(h64:q.size%64=0)(hz:q.size<=512)(hn:0<q.nslots)(hf:Fine q)(hj:(j:Int)<n)(m':M)(hm:m'=exec {q with done:=q.done+1 } (ld q.mem q.pc.toNat 4))(hen:m'.ended=false):
  (m'.slots ((a/4).toNat%q.nslots)=(0,0)/\lost m'=true)\/(m'.slots ((a/4).toNat%q.nslots)=(a,n)/\((j:Int)+1<n->InB m' a n (j+1))/\((j:Int)+1=n->lost m'=true)):=by
 obtain⟨f,hk,hnx⟩:=kx_exec {q with done:=q.done+1 } (ld q.mem q.pc.toNat 4) ⟨hf.regs,hf.zero,hf.mem,hf.size,hf.pc,hf.brk,hf.low,hf.steps,hf.fuel,hf.within⟩
 rw[<-hm]at hk hnx
 have hs:=hk.slots ((a/4).toNat%q.nslots)
 have e1:({q with done:=q.done+1 }:M).slots ((a/4).toNat%q.nslots)=(a,n):=h.slot
 rw[e1]at hs
 have hns:m'.nslots=q.nslots:=hk.ns
 have hc:=hk.cur
 have e2:({q with done:=q.done+1 }:M).cur=(a,n):=h.cur
 rw[e2]at hc
 have hd:m'.done=q.done+1:=hk.dn
 have hlost:m'.cur=(0,0)->lost m'=true:=fun e=>by simp[lost,e,hns,hn]
 cases hfa:f a with
 |true=>
  simp only[hfa,if_true]at hs hc
  refine Or.inl ⟨hs,hlost ?_⟩
  rcases hc with e|e<;>exact e
 |false=>
  simp only[hfa,Bool.false_eq_true,if_false]at hs hc
  refine Or.inr ⟨hs,fun h1=> ?_,fun h1=> ?_⟩
  ·obtain⟨b1,b2,b3⟩:=hb.at h64 j hj
   have b3':=b3 h1
   have hpc:q.pc=a+4*j:=h.pc
   rw[<-hpc]at b3'
   rcases hnx b3' with e|⟨e,e'⟩
   ·rw[hen]at e;cases e
   ·rw[e2]at e'
    simp only[hfa,Bool.false_eq_true,if_false]at e'
    refine⟨e',by rw[hns];exact hs,by rw[hd,h.done];push_cast;rfl, ?_⟩
    rw[e]
    show(q.pc+4)%4294967296=_
    rw[hpc]
    have:=hb.a0
    simp only at b2 this
    push_cast
    omega
  ·rcases hc with e|e
   ·exact hlost e
   ·have:decide (m'.cur.2<=m'.done)=true:=by rw[e,hd,h.done];simp;omega
    simp[lost,hns,hn,this]
structure Cnt (m:M):Prop where
 bs:m.built=bsum m.blocks
 kept:∀i,(m.slots i).2≠0->hasB m.blocks (m.slots i).1=true
theorem Cnt.find {m:M}(h:Cnt m)(hs:m.blocks.Pairwise (fun a b=>a.pc<b.pc)):Cnt (find m):=by
 by_cases c:(m.slots ((m.pc/4).toNat%m.nslots)).2=0\/(m.slots ((m.pc/4).toNat%m.nslots)).1≠m.pc
 ·have s2:(mach.count m.blocks m.pc (blockLen m.mem 8 m.pc) 1 0).Pairwise (fun a b=>a.pc<b.pc):=count_sorted hs _ _ _ _
  rw[find_build m c]
  refine⟨?_,fun i hi=> ?_⟩
  ·show m.built+1=bsum (mach.count (mach.count m.blocks m.pc (blockLen m.mem 8 m.pc) 1 0) m.pc (blockLen m.mem 8 m.pc) 0 1)
   rw[(count_eq _ _ _ _ s2).2,(count_eq _ _ _ _ hs).2,h.bs];omega
  ·show hasB (mach.count (mach.count m.blocks m.pc (blockLen m.mem 8 m.pc) 1 0) m.pc (blockLen m.mem 8 m.pc) 0 1) _=true
   rw[hasB_count,hasB_count]
   change (if i=(m.pc/4).toNat%m.nslots then(m.pc,blockLen m.mem 8 m.pc)else(if decide (m.arena<m.used+blockLen m.mem 8 m.pc)then fun _=>((0:Int),(0:Int))else m.slots) i).2≠0 at hi
   show(hasB m.blocks (if i=(m.pc/4).toNat%m.nslots then(m.pc,blockLen m.mem 8 m.pc)else(if decide (m.arena<m.used+blockLen m.mem 8 m.pc)then fun _=>((0:Int),(0:Int))else m.slots) i).1||_||_)=true
   by_cases d:i=(m.pc/4).toNat%m.nslots
   ·rw[if_pos d];show(_||_||((if i=(m.pc/4).toNat%m.nslots then(m.pc,blockLen m.mem 8 m.pc)else(if decide (m.arena<m.used+blockLen m.mem 8 m.pc)then fun _=>((0:Int),(0:Int))else m.slots) i).1==m.pc))=true;rw[if_pos d];simp
   ·rw[if_neg d]at hi ⊢
    cases f:decide (m.arena<m.used+blockLen m.mem 8 m.pc)with
    |true=>rw[f]at hi;exact absurd rfl hi
    |false=>
     rw[f]at hi
     simp only[Bool.false_eq_true,if_false]at hi ⊢
     rw[h.kept i hi];rfl
 ·rw[find_enter m c]
  refine⟨?_,fun i hi=> ?_⟩
  ·show m.built=bsum (mach.count m.blocks _ _ 0 1)
   rw[(count_eq _ _ _ _ hs).2,h.bs];omega
  ·show hasB (mach.count m.blocks _ _ 0 1) (m.slots i).1=true
   rw[hasB_count,h.kept i hi];rfl
theorem Cnt.kx {m m':M}{f:Int->Bool}(h:Cnt m)(k:Kx m m' f):Cnt m':=by
 refine⟨by rw[k.bu,k.bl];exact h.bs,fun i hi=> ?_⟩
 rw[k.slots i]at hi ⊢
 rw[k.bl]
 cases e:f (m.slots i).1 with
 |true=>rw[e]at hi;exact absurd rfl hi
 |false=>rw[e]at hi;exact h.kept i hi
structure BRun (m0 m:M):Prop where
 good:MGood m
 sinv:SInv m
 pos:0<m.nslots
 ns:m.nslots=m0.nslots
 nb:m.nslots<=64
 arn:m.arena=m0.arena
 ar:8<=m.arena/\m.arena<=256
 used:0<=m.used/\m.used<=m.arena
 bt0:0<=m.built
 bt1:m.built<=m.steps+(if m.ended then 1 else 0)
 bg:BG m.blocks (2*m.steps.toNat+(if m.ended then 2 else 0))
 cur2:m.cur.2<=8
 done0:0<=m.done
 done1:m.done<=8
 reach:∃k,m=run k m0
 fuel:m.fuel=m0.fuel
 size:m.size=m0.size
 cnt:Cnt m
theorem BG.mono {l:List Blk}{n k:Nat}(h:BG l n)(hk:n<=k):BG l k:=
 ⟨h.sorted,Nat.le_trans h.len hk,fun x hx=>by obtain⟨u1,u2,u3,u4⟩:=h.bd x hx;exact⟨u1,by omega,u3,by omega⟩⟩
theorem MGood.find {m:M}(h:MGood m)(hs:SInv m)(hn:0<m.nslots):MGood (find m):=by
 obtain⟨f1,f2,f3,f4,f5,f6,f7,f8,f9,f10,f11,f12,f13,f14⟩:=find_f m
 refine⟨⟨by rw[f1];exact h.fine.regs,by rw[f1];exact h.fine.zero,by rw[f6];exact h.fine.mem,by rw[f7];exact h.fine.size,by rw[f2];exact h.fine.pc,by rw[f3];exact h.fine.brk,by rw[f8,f7];exact h.fine.low,by rw[f5];exact h.fine.steps,by rw[f10];exact h.fine.fuel,by rw[f5,f10];exact h.fine.within⟩,by rw[f7];exact h.pos,by rw[f4,f5];exact h.evs, ?_⟩
 by_cases c:(m.slots ((m.pc/4).toNat%m.nslots)).2=0\/(m.slots ((m.pc/4).toNat%m.nslots)).1≠m.pc
 ·rw[find_build m c];exact h.fine.pc
 ·rw[find_enter m c]
  have c2:(m.slots ((m.pc/4).toNat%m.nslots)).1=m.pc:=Classical.byContradiction fun q=>c (Or.inr q)
  show 0<=(m.slots ((m.pc/4).toNat%m.nslots)).1/\(m.slots ((m.pc/4).toNat%m.nslots)).1<=4294967295
  rw[c2];exact h.fine.pc
theorem find_c(m:M)(N:Nat)(hN:BG m.blocks N)(hu:0<=m.used/\m.used<=m.arena)(har:8<=m.arena):
  BG (find m).blocks (N+2)/\(0<=(find m).used/\(find m).used<=m.arena)/\m.built<=(find m).built/\(find m).built<=m.built+1/\(find m).done=0:=by
 have hb:=blockLen_bd m.mem 8 m.pc
 by_cases c:(m.slots ((m.pc/4).toNat%m.nslots)).2=0\/(m.slots ((m.pc/4).toNat%m.nslots)).1≠m.pc
 ·rw[find_build m c]
  refine⟨(hN.count _ _ 1 0 oM oM oM oM).count _ _ 0 1 oM oM oM oM, ?_,by show m.built<=m.built+1;omega,by show m.built+1<=m.built+1;omega,rfl⟩
  show 0<=(if decide (m.arena<m.used+blockLen m.mem 8 m.pc)then 0 else m.used)+blockLen m.mem 8 m.pc/\(if decide (m.arena<m.used+blockLen m.mem 8 m.pc)then 0 else m.used)+blockLen m.mem 8 m.pc<=m.arena
  by_cases d:m.arena<m.used+blockLen m.mem 8 m.pc
  ·simp only[d,decide_true,if_true];omega
  ·simp only[d,decide_false,Bool.false_eq_true,if_false];omega
 ·rw[find_enter m c]
  exact⟨(hN.count _ _ 0 1 oM oM oM oM).mono oM,hu,Int.le_refl _,by show m.built<=m.built+1;omega,rfl⟩
def ready (m:M):M:=if lost m then find m else m
theorem step_ready(m:M)(c1:¬m.fuel<=m.steps)(c2:m.pc%4=0)(c3:lies m m.pc 4=true)(c4:¬opn (ld m.mem m.pc.toNat 4)=-1):mach.step m=exec {ready m with done:=(ready m).done+1 } (ld m.mem m.pc.toNat 4):=by
 unfold mach.step ready;dsimp only
 rw[if_neg c1,if_neg oM,if_neg (by simp[c3]),if_neg c4]
theorem BRun.step {m0 m:M}(h:BRun m0 m)(he:m.ended=false):BRun m0 (mach.step m)/\((mach.step m).ended=true\/((mach.step m).steps=m.steps+1/\m.steps<m.fuel)):=by
 have hr:∃k,mach.step m=run k m0:=by
  exact X12
 have hb1:=h.bt1
 have hbg:=h.bg
 simp only[he,Bool.false_eq_true,if_false]at hb1 hbg
 have hstop:∀o,mach.step m=mach.stop m o->BRun m0 (mach.step m)/\((mach.step m).ended=true\/((mach.step m).steps=m.steps+1/\m.steps<m.fuel)):=by
  intro o e
  refine⟨⟨?_, ?_, ?_, ?_, ?_, ?_, ?_, ?_, ?_, ?_, ?_, ?_, ?_, ?_,hr, ?_, ?_, ?_⟩, ?_⟩<;>rw[e]
  ·exact h.good.stop o
  ·exact h.sinv.kx (kx_stop m o)
  ·exact h.pos
  ·exact h.ns
  ·exact h.nb
  ·exact h.arn
  ·exact h.ar
  ·exact h.used
  ·exact h.bt0
  ·show m.built<=m.steps+1;omega
  ·exact hbg.mono (by show _<=2*m.steps.toNat+2;omega)
  ·exact h.cur2
  ·exact h.done0
  ·exact h.done1
  ·exact h.fuel
  ·exact h.size
  ·exact h.cnt.kx (kx_stop m o)
  ·exact Or.inl rfl
 by_cases c1:m.fuel<=m.steps
 ·exact hstop 0 (by unfold mach.step;rw[if_pos c1])
 by_cases c2:m.pc%4≠0
 ·exact X1c
 by_cases c3:(!lies m m.pc 4)=true
 ·exact X16
 by_cases c4:opn (ld m.mem m.pc.toNat 4)=-1
 ·exact X13
 have hl:lies m m.pc 4=true:=by simpa using c3
 have e:=step_ready m c1 oM hl c4
 have hpl:m.pc+4<=m.size:=by simpa [lies]using hl
 have hq:MGood (ready m)/\SInv (ready m)/\(ready m).nslots=m.nslots/\(ready m).arena=m.arena/\(0<=(ready m).used/\(ready m).used<=m.arena)/\m.built<=(ready m).built/\(ready m).built<=m.built+1/\BG (ready m).blocks (2*m.steps.toNat+2)/\(ready m).cur.2<=8/\0<=(ready m).done/\(ready m).done<8/\(ready m).steps=m.steps/\(ready m).fuel=m.fuel/\(ready m).size=m.size:=by
  unfold ready
  cases hlo:lost m with
  |true=>
   rw[if_pos rfl]
   obtain⟨f1,f2,f3,f4,f5,f6,f7,f8,f9,f10,f11,f12,f13,f14⟩:=find_f m
   obtain⟨g1,g2,g3,g4,g5⟩:=find_c m _ hbg h.used h.ar.1
   obtain⟨s1,s2,s3⟩:=find_in h.sinv h.pos h.good.fine.pc.1 oM hpl c4
   refine⟨h.good.find h.sinv h.pos,s1,f12,f13,g2,g3,g4,g1, ?_,by omega,by omega,f5,f10,f7⟩
   rw[s2.cur];exact s3.le8
  |false=>
   rw[if_neg dC]
   have hd:¬m.cur.2<=m.done:=by
    intro hd
    have:lost m=true:=by simp[lost,h.pos,hd]
    rw[hlo]at this;cases this
   have:=h.cur2
   have:=h.done0
   exact⟨h.good,h.sinv,rfl,rfl,h.used,Int.le_refl _,by omega,hbg.mono oM,h.cur2,h.done0,by omega,rfl,rfl,rfl⟩
 obtain⟨q1,q2,q3,q4,q5,q6,q7,q8,q9,q10,q11,q12,q13,q14⟩:=hq
 have hcn:Cnt {ready m with done:=(ready m).done+1 }:=by
  have hc:Cnt (ready m):=by
   unfold ready
   cases hlo:lost m with
   |true=>rw[if_pos rfl];exact h.cnt.find hbg.sorted
   |false=>rw[if_neg dC];exact h.cnt
  exact⟨hc.bs,hc.kept⟩
 have qd:MGood {ready m with done:=(ready m).done+1 }:=good_done' q1 _
 have hx:=Fx.exec {ready m with done:=(ready m).done+1 } (ld m.mem m.pc.toNat 4)
 have hg:=qd.exec (show(ready m).steps<(ready m).fuel by omega) (ld m.mem m.pc.toNat 4)
 obtain⟨f,hk,_⟩:=kx_exec {ready m with done:=(ready m).done+1 } (ld m.mem m.pc.toNat 4) qd.fine
 rw[<-e]at hx hg hk
 obtain⟨x1,x2,x3,x4,x5⟩:=hx
 have k1:(mach.step m).nslots=(ready m).nslots:=hk.ns
 have k2:(mach.step m).arena=(ready m).arena:=hk.ar
 have k3:(mach.step m).used=(ready m).used:=hk.us
 have k4:(mach.step m).built=(ready m).built:=hk.bu
 have k5:(mach.step m).blocks=(ready m).blocks:=hk.bl
 have x1':(mach.step m).done=(ready m).done+1:=x1
 have x2':(mach.step m).fuel=(ready m).fuel:=x2
 have x4':(mach.step m).size=(ready m).size:=x4
 have x5':(mach.step m).ended=true\/(mach.step m).steps=(ready m).steps+1:=x5
 have hms:m.steps<=(mach.step m).steps:=by
  rcases x5' with x5|x5
  ·have h2:(ready m).steps<=(mach.step m).steps:=hk.st
   omega
  ·omega
 have hst0:=h.good.fine.steps
 refine⟨⟨hg,SInv.kx (m:={ready m with done:=(ready m).done+1 }) ⟨q2.s64,fun i hi=> ?_⟩ hk,by rw[k1,q3];exact h.pos,by rw[k1,q3];exact h.ns,by rw[k1,q3];exact h.nb,by rw[k2,q4];exact h.arn,by rw[k2,q4];exact h.ar,by rw[k3,k2,q4];exact q5,by rw[k4];have:=h.bt0;omega, ?_, ?_, ?_,by rw[x1'];omega,by rw[x1'];omega,hr,by rw[x2',q13];exact h.fuel,by rw[x4',q14];exact h.size,Cnt.kx (m:={ready m with done:=(ready m).done+1 }) hcn hk⟩, ?_⟩
 ·rcases q2.slot i hi with u|u
  ·exact Or.inl u
  ·exact Or.inr (u.congr rfl rfl rfl)
 ·rw[k4]
  cases hee:(mach.step m).ended with
  |true=>rw[if_pos rfl];omega
  |false=>
   rw[if_neg dC]
   rcases x5' with x5|x5
   ·rw[hee]at x5;cases x5
   ·omega
 ·rw[k5]
  cases hee:(mach.step m).ended with
  |true=>rw[if_pos rfl];exact q8.mono oM
  |false=>
   rw[if_neg dC]
   rcases x5' with x5|x5
   ·rw[hee]at x5;cases x5
   ·exact q8.mono oM
 ·rcases hk.cur with u|u
  ·rw[u];decide
  ·rw[u]
   cases f (ready m).cur.1 with
   |true=>rw[if_pos rfl];decide
   |false=>rw[if_neg dC];exact q9
 ·rcases x5' with x5|x5
  ·exact Or.inl x5
  ·exact Or.inr ⟨by omega,by omega⟩
end mach
namespace mach
open RowKit IntWalk nums dnums
def Gx (m m':M):Prop:=m'.done=m.done/\m'.fuel=m.fuel/\(m'.nslots,m'.built)=(m.nslots,m.built)/\m'.size=m.size/\(m'.ended=true\/m'.steps=m.steps+1)
theorem Gx.stop (m:M)(o:Int):Gx m (mach.stop m o):=⟨rfl,rfl,rfl,rfl,Or.inl rfl⟩
theorem Gx.next (m:M):Gx m (mach.next m):=⟨rfl,rfl,rfl,rfl,Or.inr rfl⟩
theorem Gx.goes (m:M)(to:Int):Gx m (mach.goes m to):=by
 unfold mach.goes
 by_cases e:to%4=0
 ·rw[if_pos e];exact⟨rfl,rfl,rfl,rfl,Or.inr rfl⟩
 ·rw[if_neg e];exact Gx.stop m 3
theorem Gx.setReg {m m':M}(h:Gx m m')(r v:Int):Gx m (mach.setReg m' r v):=by
 exact X10
def Gy (m m':M):Prop:=m'.done=m.done/\m'.fuel=m.fuel/\(m'.nslots,m'.built)=(m.nslots,m.built)/\m'.size=m.size/\m'.steps=m.steps
theorem Gy.next {m m':M}(h:Gy m m'):Gx m (mach.next m'):=⟨h.1,h.2.1,h.2.2.1,h.2.2.2.1,Or.inr (show m'.steps+1=m.steps+1 by rw[h.2.2.2.2])⟩
theorem Gy.refl (m:M):Gy m m:=⟨rfl,rfl,rfl,rfl,rfl⟩
theorem Gy.setReg {m m':M}(h:Gy m m')(r v:Int):Gy m (mach.setReg m' r v):=by
 exact X10
theorem Gy.wrote {m m':M}(h:Gy m m')(a n:Int):Gy m (mach.wrote m' a n):=by
 exact X11
theorem Gx.memop (m:M)(op rd a b:Int):Gx m (mach.memop m op rd a b):=by
 unfold mach.memop
 dsimp only
 by_cases h1:a%(width op)≠0
 ·rw[if_pos h1];exact Gx.stop m _
 ·rw[if_neg h1]
  by_cases h2:(!lies m a (width op))=true
  ·rw[if_pos h2];exact Gx.stop m _
  ·rw[if_neg h2]
   by_cases h3:15<=op
   ·rw[if_pos h3];exact(Gy.wrote (m:=m) (m':={m with mem:=st m.mem a.toNat (width op) b }) ⟨rfl,rfl,rfl,rfl,rfl⟩ _ _).next
   ·rw[if_neg h3];exact((Gy.refl m).setReg _ _).next
theorem Gx.ecall (m:M):Gx m (mach.ecall m):=by
 unfold mach.ecall
 dsimp only
 by_cases c1:m.regs 17=93
 ·rw[if_pos c1];exact⟨rfl,rfl,rfl,rfl,Or.inl rfl⟩
 rw[if_neg c1]
 by_cases c2:m.regs 17=64
 ·rw[if_pos c2]
  by_cases c:lies m (m.regs 11) (m.regs 12)=true
  ·rw[if_pos c];refine Gy.next (Gy.setReg ?_ _ _);exact⟨rfl,rfl,rfl,rfl,rfl⟩
  ·rw[if_neg c];exact((Gy.refl m).setReg _ _).next
 rw[if_neg c2]
 by_cases c3:m.regs 17=63
 ·rw[if_pos c3]
  by_cases c:lies m (m.regs 11) (m.regs 12)=true
  ·rw[if_pos c]
   generalize(m.ans.headD ByteArray.empty).extract 0 (min (m.ans.headD ByteArray.empty).size (m.regs 12).toNat)=t
   have hw:Gy m (mach.wrote {m with mem:=put m.mem (m.regs 11).toNat t,ans:=m.ans.tail } (m.regs 11) t.size):=Gy.wrote (m:=m) (m':={m with mem:=put m.mem (m.regs 11).toNat t,ans:=m.ans.tail }) ⟨rfl,rfl,rfl,rfl,rfl⟩ _ _
   generalize mach.wrote {m with mem:=put m.mem (m.regs 11).toNat t,ans:=m.ans.tail } (m.regs 11) t.size=q at hw
   exact(Gy.setReg (m:=m) (m':={q with evs:=m.evs++[⟨63,t.size,t⟩] }) hw 10 t.size).next
  ·rw[if_neg c];exact((Gy.refl m).setReg _ _).next
 rw[if_neg c3]
 by_cases c4:m.regs 17=214
 ·rw[if_pos c4];refine Gy.next (Gy.setReg ?_ _ _);exact⟨rfl,rfl,rfl,rfl,rfl⟩
 rw[if_neg c4];exact((Gy.refl m).setReg _ _).next
theorem Gx.exec (m:M)(x:Int):Gx m (mach.exec m x):=by
 have hs:∀v,Gx m (mach.next (mach.setReg m (qRd x) v)):=fun v=>((Gy.refl m).setReg _ _).next
 unfold mach.exec
 dsimp only
 by_cases c1:opn x=2
 ·rw[if_pos c1]
  by_cases k:(m.pc+imm x%4294967296)%4294967296%4=0
  ·rw[if_pos k];exact(Gx.goes m _).setReg _ _
  ·rw[if_neg k];exact Gx.stop m _
 rw[if_neg c1]
 by_cases c2:opn x=3
 ·rw[if_pos c2]
  by_cases k:(m.regs (qR1 x).toNat+imm x%4294967296)%4294967296/2*2%4=0
  ·rw[if_pos k];exact(Gx.goes m _).setReg _ _
  ·rw[if_neg k];exact Gx.stop m _
 rw[if_neg c2]
 by_cases c3:4<=opn x/\opn x<=9
 ·rw[if_pos c3]
  by_cases k:taken (opn x) (m.regs (qR1 x).toNat) (m.regs (qR2 x).toNat)=true
  ·rw[if_pos k];exact Gx.goes m _
  ·rw[if_neg k];exact Gx.next m
 rw[if_neg c3]
 by_cases c4:opn x=47
 ·rw[if_pos c4];exact Gx.stop m _
 rw[if_neg c4]
 by_cases c5:opn x=46
 ·rw[if_pos c5];exact Gx.ecall m
 rw[if_neg c5]
 by_cases c6:10<=opn x/\opn x<18
 ·rw[if_pos c6];exact Gx.memop m _ _ _ _
 rw[if_neg c6]
 by_cases c7:opn x=0
 ·exact X1d
 rw[if_neg c7]
 by_cases c8:opn x=1
 ·exact X1e
 rw[if_neg c8]
 by_cases c9:18<=opn x/\opn x<=26
 ·exact X1f
 rw[if_neg c9]
 by_cases c10:27<=opn x/\opn x<=44
 ·exact X1a
 rw[if_neg c10];exact Gx.next m
theorem step_built(m:M)(h:m.nslots=0):(mach.step m).built=m.built/\(mach.step m).nslots=0:=by
 unfold mach.step
 dsimp only
 by_cases c1:m.fuel<=m.steps
 ·rw[if_pos c1];exact⟨rfl,h⟩
 rw[if_neg c1]
 by_cases c2:m.pc%4≠0
 ·rw[if_pos c2];exact⟨rfl,h⟩
 rw[if_neg c2]
 by_cases c3:(!lies m m.pc 4)=true
 ·rw[if_pos c3];exact⟨rfl,h⟩
 rw[if_neg c3]
 by_cases c4:opn (ld m.mem m.pc.toNat 4)=-1
 ·rw[if_pos c4];exact⟨rfl,h⟩
 rw[if_neg c4,lost_0' m h,if_neg dC]
 have hx:=(Gx.exec {m with done:=m.done+1 } (ld m.mem m.pc.toNat 4)).2.2.1
 exact⟨congrArg Prod.snd hx,(congrArg Prod.fst hx).trans h⟩
theorem run_built:∀(k:Nat) (m:M),m.nslots=0->(run k m).built=m.built
 |0,m,_=>rfl
 |k+1,m,h=>by
  rw[run]
  by_cases e:m.ended=true
  ·rw[if_pos e]
  ·rw[if_neg e,run_built k _ (step_built m h).2];exact(step_built m h).1
end mach
end Go.Proofs.YtjikimpejlmdiaaGreatDoor

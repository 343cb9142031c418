/- Texts of one kind in one: SnPos, SnNext, SnCurs, DcMem, DcPut, DcRep. -/
import Derived.Test.YtcklcmafohlflaaGreatDoorQSnTurn03
import Derived.Deep.AppendLies
import Derived.Deep.RegionLaw
set_option maxRecDepth 200000
set_option maxHeartbeats 8000000
namespace Go.Proofs.YtcklcmafohlflaaGreatDoor.Dc.Dt
open Zc
theorem Jj(k m n j:Nat)(h:(decide (k<=j)&&m.testBit (j-k))=!m.testBit j) :
 (Iq (2 ^ k) m n).testBit j=n.testBit (if m.testBit j then j+k else j-k):=by
 unfold Iq;rw [Nat.testBit_or,Nat.testBit_and,Nat.testBit_div_two_pow,<- Nat.shiftLeft_eq,Nat.testBit_shiftLeft,Nat.testBit_and]
 cases hm:m.testBit j with
 | true =>
   rw [hm] at h
   by_cases hk:k<=j
   ·simp [hk] at h;simp [h]
   ·simp [hk]
 | false =>
   rw [hm] at h;simp at h;simp [h]
def Vc(k m j:Nat):Nat:=if m.testBit j then j+k else j-k
theorem Jl:∀ j:Fin 32,(decide (1<=j.val)&&(1431655765).testBit (j.val-1))=!(1431655765).testBit j.val /\
 (decide (2<=j.val)&&(858993459).testBit (j.val-2))=!(858993459).testBit j.val /\
 (decide (4<=j.val)&&(252645135).testBit (j.val-4))=!(252645135).testBit j.val /\
 (decide (8<=j.val)&&(16711935).testBit (j.val-8))=!(16711935).testBit j.val /\
 (decide (16<=j.val)&&(65535).testBit (j.val-16))=!(65535).testBit j.val:=by decide +kernel
theorem x4n:∀ j:Fin 32,Vc 16 65535 j.val<32/\Vc 8 16711935 (Vc 16 65535 j.val)<32/\Vc 4 252645135 (Vc 8 16711935 (Vc 16 65535 j.val))<32 /\
 Vc 2 858993459 (Vc 4 252645135 (Vc 8 16711935 (Vc 16 65535 j.val)))<32 /\
 Vc 1 1431655765 (Vc 2 858993459 (Vc 4 252645135 (Vc 8 16711935 (Vc 16 65535 j.val))))=31-j.val:=by decide +kernel
theorem Ug(n j:Nat)(hj:j<32):(Y1 n).testBit j=n.testBit (31-j):=by
 obtain ⟨l5,l4,l3,l2,l1⟩:=x4n ⟨j,hj⟩;simp only at l5 l4 l3 l2 l1;have s5:=Jj 16 65535 (Y2 4 n) j (Jl ⟨j,hj⟩).2.2.2.2;have s4:=Jj 8 16711935 (Y2 3 n) _ (Jl ⟨_,l5⟩).2.2.2.1;have s3:=Jj 4 252645135 (Y2 2 n) _ (Jl ⟨_,l4⟩).2.2.1;have s2:=Jj 2 858993459 (Y2 1 n) _ (Jl ⟨_,l3⟩).2.1;have s1:=Jj 1 1431655765 (Y2 0 n) _ (Jl ⟨_,l2⟩).1;rw [<- l1];unfold Y1;rw [Fw];refine s5.trans ?_;rw [Fv];refine s4.trans ?_;rw [Fu];refine s3.trans ?_;rw [Ft];refine s2.trans ?_;rw [Fs];exact s1
theorem V1(n:Nat)(hn:n<4294967296):Y1 n<4294967296:=by
 have h1:=Uf 2 1431655765 _ hn (by decide);have h2:=Uf 4 858993459 _ h1 (by decide);have h3:=Uf 16 252645135 _ h2 (by decide);have h4:=Uf 256 16711935 _ h3 (by decide);have h5:=Uf 65536 65535 _ h4 (by decide);exact h5
theorem Pi(n j:Nat)(hn:n<4294967296)(hj:¬ j<32):n.testBit j=false :=
 Nat.testBit_lt_two_pow (Nat.lt_of_lt_of_le hn (show 2 ^ 32<=2 ^ j from Nat.pow_le_pow_right (by decide) (by omega)))
theorem U3(n:Nat)(hn:n<4294967296):Y1 (Y1 n)=n:=by
 apply Nat.eq_of_testBit_eq
 intro j
 by_cases hj:j<32
 ·rw [Ug _ j hj,Ug _ _ (by omega)]
  congr 1
  omega
 ·rw [Pi _ j (V1 _ (V1 n hn)) hj,Pi _ j hn hj]
theorem M6:Y1 0=0:=by decide +kernel
theorem z6j{n:Nat}(hn:n<4294967296)(h:Y1 n=0):n=0:=by rw [<- U3 n hn,h,M6]
theorem O0{s:Nat}(h:isS (s:Int)=true):∃ k,2<=k/\k<=16/\s=2 ^ k:=by
 obtain ⟨x,hx,he⟩:=(z4p _).1 h;have e:x=s:=by omega
 subst e
 have:∀ x∈Vt,x=2 ^ 2\/x=2 ^ 3\/x=2 ^ 4\/x=2 ^ 5\/x=2 ^ 6\/x=2 ^ 7\/x=2 ^ 8\/x=2 ^ 9\/x=2 ^ 10\/x=2 ^ 11\/x=2 ^ 12\/x=2 ^ 13\/x=2 ^ 14\/x=2 ^ 15\/x=2 ^ 16:=by decide +kernel
 rcases this x hx with h|h|h|h|h|h|h|h|h|h|h|h|h|h|h
 all_goals exact ⟨_,by decide,by decide,h⟩
def Z8(s:Nat):Nat:=4294967296 / s
theorem Uz(k:Nat)(hk:k<=32):Z8 (2 ^ k)=2 ^ (32-k):=by
 unfold Z8;rw [show 4294967296=2 ^ 32 from rfl,Nat.pow_div hk (by decide)]
def upN(s P:Nat):Nat:=(P / Z8 s+1)*Z8 s % 4294967296
def Fc(c s:Nat):Nat:=Y1 (upN s (Y1 c))
theorem x3p(k j:Nat)(hk:k<=32):(4294967296-2 ^ k:Nat).testBit j=(decide (k<=j)&&decide (j<32)):=by
 have h:(4294967296-2 ^ k:Nat)=(2 ^ (32-k)-1) <<< k:=by
  rw [Nat.shiftLeft_eq,Nat.sub_mul,Nat.one_mul,<- Nat.pow_add,show 32-k+k=32 by omega]
 rw [h,Nat.testBit_shiftLeft,Nat.testBit_two_pow_sub_one]
 by_cases h1:k<=j
 ·by_cases h2:j<32
  ·simp [h1,h2];omega
  ·simp [h1,h2];omega
 ·simp [h1]
theorem x0j(c k:Nat)(hc:c<4294967296)(hk:k<=32):Y1 (c ||| (4294967296-2 ^ k))=Y1 c / 2 ^ (32-k)*2 ^ (32-k)+(2 ^ (32-k)-1):=by
 have hp:0<2 ^ (32-k):=Nat.two_pow_pos _;have hm:4294967296-2 ^ k<4294967296:=by have:=Nat.two_pow_pos k;omega
 have hlt:=V1 _ (Bg hc hm)
 apply Nat.eq_of_testBit_eq
 intro j;rw [Nat.mul_comm,Nat.testBit_two_pow_mul_add _ (by omega)]
 by_cases hj:j<32
 ·rw [Ug _ j hj,Nat.testBit_or,x3p k _ hk]
  by_cases h1:j<32-k
  ·rw [if_pos h1,Nat.testBit_two_pow_sub_one]
   have:k<=31-j:=by omega
   simp [h1,this];omega
  ·rw [if_neg h1,Nat.testBit_div_two_pow,show j-(32-k)+(32-k)=j by omega,Ug c j hj]
   have:¬ k<=31-j:=by omega
   simp [this]
 ·rw [Pi _ j hlt hj]
  by_cases h1:j<32-k
  ·omega
  ·rw [if_neg h1,Nat.testBit_div_two_pow,show j-(32-k)+(32-k)=j by omega,Pi _ j (V1 c hc) hj]
theorem x3x(c k:Nat)(hc:c<4294967296)(hk:k<=32):Y1 ((Y1 (c ||| (4294967296-2 ^ k))+1) % 4294967296)=Fc c (2 ^ k):=by
 have hp:0<2 ^ (32-k):=Nat.two_pow_pos _;unfold Fc upN;rw [Uz k hk,x0j c k hc hk,Nat.add_mul,Nat.one_mul,Nat.add_assoc,Nat.sub_add_cancel hp]
theorem y9w(a b k:Nat)(hk:k<=32)(ha:a<4294967296)(hb:b<4294967296):a % 2 ^ k=b % 2 ^ k↔Y1 a / 2 ^ (32-k)=Y1 b / 2 ^ (32-k):=by
 constructor
 ·intro h
  apply Nat.eq_of_testBit_eq
  intro j;rw [Nat.testBit_div_two_pow,Nat.testBit_div_two_pow]
  by_cases hj:j+(32-k)<32
  ·rw [Ug _ _ hj,Ug _ _ hj];have h2:=congrArg (fun x=>x.testBit (31-(j+(32-k)))) h;simp only [Nat.testBit_mod_two_pow] at h2;have h3:31-(j+(32-k))<k:=by omega
   simpa [h3] using h2
  ·rw [Pi _ _ (V1 a ha) hj,Pi _ _ (V1 b hb) hj]
 ·intro h
  apply Nat.eq_of_testBit_eq
  intro j;rw [Nat.testBit_mod_two_pow,Nat.testBit_mod_two_pow]
  by_cases hj:j<k
  ·have h2:=congrArg (fun x=>x.testBit (31-j-(32-k))) h;simp only [Nat.testBit_div_two_pow] at h2;rw [show 31-j-(32-k)+(32-k)=31-j by omega,Ug _ _ (by omega),Ug _ _ (by omega),show 31-(31-j)=j by omega] at h2;rw [h2]
  ·simp [hj]
end Go.Proofs.YtcklcmafohlflaaGreatDoor.Dc.Dt
namespace Go.Proofs.YtcklcmafohlflaaGreatDoor.Dc.Dt
open Zc
open Go.RowKit Go.Shelf
attribute [local go_sem] Oper.semAt_some
def y4l:List Nat:=[0,1,56,2,57,49,28,3,61,58,42,50,38,29,17,4,62,47,59,36,45,43,51,22,53,39,33,30,24,18,12,5,63,55,48,27,60,41,37,16,46,35,44,21,52,32,23,11,54,26,40,15,34,20,31,10,25,14,19,9,13,8,7,6]
def x6k:Array Value:=(y4l.map fun (n:Nat)=>Value.int .u8 (n:Int)).toArray
def Env(W:World):Prop:=Blk W 2 334 x6k
theorem Env.below{W W':World}(h:Env W)(hb:Bl W W'):Env W':=Blk.later h hb
theorem Env.cell{W:World}(h:Env W)(i:Fin 64):W.cell? ⟨2,i.val,none⟩=some (.int .u8 (y4l.getD i.val 0:Nat)):=by
 rw [Blk.cell i.val h];have hl:i.val<y4l.length:=by have:y4l.length=64:=rfl;omega
 simp [x6k,hl]
def y4n(k:Nat):Nat:=2 ^ k*285870213051353865 % 18446744073709551616 / 288230376151711744
theorem y0o(a b:Nat)(ha:a<18446744073709551616)(hb:b<18446744073709551616):bits .and .u64 (a:Int) (b:Int)=((a &&& b:Nat):Int):=by
 have hx:a &&& b<18446744073709551616:=Nat.lt_of_le_of_lt Nat.and_le_left ha;unfold bits;show IntKind.u64.wrap ((BitVec.ofInt 64 (a:Int) &&& BitVec.ofInt 64 (b:Int)).toNat:Int)=_;rw [BitVec.ofInt_natCast,BitVec.ofInt_natCast,BitVec.toNat_and,BitVec.toNat_ofNat,BitVec.toNat_ofNat,Nat.mod_eq_of_lt ha,Nat.mod_eq_of_lt hb,IntKind.wrap_u64];omega
theorem x9z:∀ k:Fin 17,2<=k.val->y4n k.val<64/\y4l.getD (y4n k.val) 0=k.val/\2 ^ k.val<=65536/\4<=2 ^ k.val /\
 (2 ^ k.val &&& (18446744073709551616-2 ^ k.val))=2 ^ k.val:=by decide +kernel
theorem x6r(k:Fin 17)(h:2<=k.val):y4n k.val<64/\y4l.getD (y4n k.val) 0=k.val/\2 ^ k.val<=65536/\4<=2 ^ k.val /\
 bits .and .u64 ((2 ^ k.val:Nat):Int) (IntKind.u64.wrap (-((2 ^ k.val:Nat):Int)))=((2 ^ k.val:Nat):Int):=by
 obtain ⟨h1,h2,h3,h4,h5⟩:=x9z k h;refine ⟨h1,h2,h3,h4,?_⟩;generalize 2 ^ k.val=x at *;have e1:IntKind.u64.wrap (-(x:Int))=((18446744073709551616-x:Nat):Int):=by rw [IntKind.wrap_u64];omega
 rw [e1,y0o _ _ (by omega) (by omega),h5]
theorem v3a(x:Nat):IntKind.u64.wrap ((x:Int)*285870213051353865)=((x*285870213051353865 % 18446744073709551616:Nat):Int):=by
 rw [IntKind.wrap_u64];omega
theorem v2z(y:Nat):(y:Int) / 288230376151711744=((y / 288230376151711744:Nat):Int):=by omega
theorem x0l(k j x y:Nat)(hk:k<=16)(w:World)(h1:j<64)(h3:x<=65536)(h4:4<=x)(h5:bits .and .u64 (x:Int) (IntKind.u64.wrap (-(x:Int)))=(x:Int))
 (h7:IntKind.u64.wrap ((x:Int)*285870213051353865)=(y:Int)) (h8:(y:Int) / 288230376151711744=(j:Int)) (h6:w.cell? ⟨2,j,none⟩=some (.int .u8 k)) :
 Calls Tryz.prog 220 #[.int .u64 x] w fun e w'=>e=.returned (.int .i64 k)/\w'=w:=by
 go_enter Tryz.func220,Tryz.ntmps220
 go_wp2;go_ret;exact ⟨rfl,rfl⟩
theorem x6q(k:Nat)(hk:2<=k)(hk2:k<=16)(w:World)(hE:Env w):Calls Tryz.prog 220 #[.int .u64 (2 ^ k:Nat)] w fun e w'=>e=.returned (.int .i64 k)/\w'=w:=by
 obtain ⟨h1,h2,h3,h4,h5⟩:=x6r ⟨k,by omega⟩ hk;have h6:=hE.cell ⟨y4n k,h1⟩;simp only at h2 h6;rw [h2] at h6;exact x0l k (y4n k) (2 ^ k) _ hk2 w h1 h3 h4 h5 (v3a (2 ^ k)) (by rw [v2z];unfold y4n;rfl) h6
theorem v2y(k:Nat)(hk:2<=k)(hk2:k<=16)(w:World)(hE:Env w):Calls Tryz.prog 200 #[.int .u64 (2 ^ k:Nat)] w fun e w'=>e=.returned (.int .i64 k)/\w'=w:=by
 have HT:=jY (x6q k hk hk2 w hE);generalize 2 ^ k=x at *
 go_enter Tryz.func200,Tryz.ntmps200
 go_wp2_with fail
 (with_reducible refine HT.out.mono ?_)
 rintro e w1 ⟨rfl,rfl⟩;go_wp2;go_ret;exact ⟨rfl,rfl⟩
theorem y2h:∀ k:Fin 17,2<=k.val->(4294967295*2 ^ k.val % 4294967296:Int)=((4294967296-2 ^ k.val:Nat):Int):=by decide +kernel
theorem x3w(c:Nat)(hc:c<4294967296)(s:Nat)(hs:isS (s:Int)=true)(w:World)(hE:Env w) :
 Calls Tryz.prog 175 #[.int .u32 c,.int .i64 s] w fun e w'=>e=.returned (.tuple #[.int .u32 (Fc c s),.int .i64 0])/\Bl w w':=by
 obtain ⟨k,hk,hk2,rfl⟩:=O0 hs;have hI:=fun w=>G7 ((2 ^ k:Nat):Int) w;rw [hs] at hI;have HI:=fun w=>jY (hI w);have hp:=Zp hs;have hm:=y2h ⟨k,by omega⟩ hk;simp only at hm;have hv:=x3x c k hc (by omega);have hml:4294967296-2 ^ k<4294967296:=by omega
 have hor:=z1n c (4294967296-2 ^ k) hc hml;have hol:=Bg hc hml;have HT:=fun W hE=>jY (v2y k hk hk2 W hE);have hk3:(k:Int)<32:=by omega
 have HV:=jY hv;clear hI hs hv;generalize Fc c (2 ^ k)=n at *;generalize 2 ^ k=s at *;generalize 4294967296-s=m at *;generalize (c ||| m)=y at *
 go_enter Tryz.func175,Tryz.ntmps175
 go_wp2_with fail;refine wp_scope_straight ?_;go_wp2_with fail;refine (HI _).out.mono ?_;rintro e w1 ⟨rfl,hb1⟩;have HE1:=jY (hE.below hb1);go_wp2_with fail
 (with_reducible refine (HT _ HE1.out).out.mono ?_)
 rintro e w2 ⟨rfl,rfl⟩;have HTU:=fun z hz W=>jY (x6m z hz W);go_wp2_with fail
 (with_reducible refine (HTU y hol _).out.mono ?_)
 rintro e w3 ⟨rfl,hb3⟩;have hz:=V1 y hol;generalize Y1 y=z at *;have hz1:(z+1) % 4294967296<4294967296:=Nat.mod_lt _ (by decide);have hzi:((z:Int)+1) % 4294967296=(((z+1) % 4294967296:Nat):Int):=by omega
 generalize (z+1) % 4294967296=z1 at *;go_wp2_with fail
 (with_reducible refine (HTU z1 hz1 _).out.mono ?_)
 rintro e w4 ⟨rfl,hb4⟩;rw [HV.out];go_wp2;simp only [Exit.noGoto];go_ret2;exact ⟨rfl,(hb1.trans (hb3.mono hb1.size)).trans (hb4.mono (hb1.trans (hb3.mono hb1.size)).size)⟩
end Go.Proofs.YtcklcmafohlflaaGreatDoor.Dc.Dt
namespace Go.Proofs.YtcklcmafohlflaaGreatDoor.Dc.Dt
open Zc
theorem v1b(k i:Nat)(hk:k<=32)(hi:i<2 ^ k):Y1 (i*2 ^ (32-k))<2 ^ k:=by
 have hx:i*2 ^ (32-k)<4294967296:=by
  have h1:i*2 ^ (32-k)<2 ^ k*2 ^ (32-k):=Nat.mul_lt_mul_of_pos_right hi (Nat.two_pow_pos _);rw [<- Nat.pow_add,show k+(32-k)=32 by omega] at h1;exact h1
 apply Nat.lt_pow_two_of_testBit
 intro j hj
 by_cases h32:j<32
 ·rw [Ug _ _ h32,<- Nat.shiftLeft_eq,Nat.testBit_shiftLeft]
  have:¬ (32-k<=31-j):=by omega
  simp [this]
 ·exact Pi _ _ (V1 _ hx) h32
def X7(s i:Nat):Nat:=Y1 (i*Z8 s % 4294967296)
theorem Q9(s:Nat)(hs:isS (s:Int)=true):∃ u,Z8 s=u/\s*u=4294967296/\0<u:=by
 obtain ⟨k,hk,hk2,rfl⟩:=O0 hs;refine ⟨_,Uz k (by omega),?_,Nat.two_pow_pos _⟩;rw [<- Nat.pow_add,show k+(32-k)=32 by omega]
theorem z3t(s i:Nat)(hs:isS (s:Int)=true)(hi:i<s):i*Z8 s<4294967296:=by
 obtain ⟨u,rfl,h1,h2⟩:=Q9 s hs;rw [<- h1];exact Nat.mul_lt_mul_of_pos_right hi h2
theorem Kq(s i:Nat)(hs:isS (s:Int)=true)(hi:i<s):X7 s i<s:=by
 have h1:=z3t s i hs hi;unfold X7;rw [Nat.mod_eq_of_lt h1];obtain ⟨k,hk,hk2,rfl⟩:=O0 hs;rw [Uz k (by omega)];exact v1b k i (by omega) hi
theorem z3u(s i j:Nat)(hs:isS (s:Int)=true)(hi:i<s)(hj:j<s)(h:X7 s i=X7 s j):i=j:=by
 have h1:=z3t s i hs hi;have h2:=z3t s j hs hj;unfold X7 at h;rw [Nat.mod_eq_of_lt h1,Nat.mod_eq_of_lt h2] at h;have h3:=congrArg Y1 h;rw [U3 _ h1,U3 _ h2] at h3;obtain ⟨u,rfl,_,h4⟩:=Q9 s hs;exact Nat.eq_of_mul_eq_mul_right h4 h3
theorem x7j(s:Nat)(hs:isS (s:Int)=true):X7 s s=0:=by
 obtain ⟨u,rfl,h3,h4⟩:=Q9 s hs;unfold X7;rw [h3];exact M6
theorem x1r(s:Nat):X7 s 0=0:=by unfold X7;rw [Nat.zero_mul];exact M6
theorem x7k(s i:Nat)(hs:isS (s:Int)=true)(hi:i<s)(h0:0<i):X7 s i≠0:=fun e=>by
 have:=z3u s i 0 hs hi (by omega) (by rw [e,x1r])
 omega
theorem Ms(s a:Nat)(hs:isS (s:Int)=true)(ha:a<4294967296):Y1 a / Z8 s<s:=by
 obtain ⟨u,rfl,h1,h2⟩:=Q9 s hs;rw [Nat.div_lt_iff_lt_mul h2,h1];exact V1 a ha
theorem v1c(s a:Nat):Fc a s=X7 s (Y1 a / Z8 s+1):=rfl
theorem z6v(s j:Nat)(hs:isS (s:Int)=true)(hj:j<s):Y1 (X7 s j) / Z8 s=j:=by
 have h1:=z3t s j hs hj;obtain ⟨u,hu,_,h4⟩:=Q9 s hs;unfold X7;rw [U3 _ (Nat.mod_lt _ (by decide)),Nat.mod_eq_of_lt h1,hu,Nat.mul_div_cancel _ h4]
theorem Db(s j:Nat):X7 s j<4294967296:=V1 _ (Nat.mod_lt _ (by decide))
theorem x1q(s a:Nat)(hs:isS (s:Int)=true)(ha:a<4294967296):a % s=X7 s (Y1 a / Z8 s):=by
 have h1:=Ms s a hs ha;have h2:=z6v s _ hs h1;have h3:=Kq s _ hs h1;obtain ⟨k,hk,hk2,rfl⟩:=O0 hs;rw [Uz k (by omega)] at *;have h4:=(y9w a (X7 (2 ^ k) (Y1 a / 2 ^ (32-k))) k (by omega) ha (Db _ _)).2 h2.symm;rw [h4,Nat.mod_eq_of_lt h3]
end Go.Proofs.YtcklcmafohlflaaGreatDoor.Dc.Dt
namespace Go.Proofs.YtcklcmafohlflaaGreatDoor.Dc
open Zc
open Go.RowKit Go.Shelf
structure Nd where
 sum:Nat
 key:ByteArray
 v:Value
structure Ty where
 d:TypeId
 t:TypeId
 r:TypeId
 ok:Value->Prop
def tyI:Ty:=⟨270,301,300,fun v=>∃ n,v=.int .i64 n⟩
def Nd.cells(x:Nd):List Value:=[.int .u32 x.sum,.string x.key,x.v]
def Nd.fine(T:Ty)(x:Nd):Prop:=x.sum<4294967296/\T.ok x.v
def Xs(r:List Nd):List Value:=r.flatMap Nd.cells
theorem Jz(x:Nd)(r:List Nd):Xs (x :: r)=x.cells++Xs r:=rfl
theorem Vo(a b:List Nd):Xs (a++b)=Xs a++Xs b:=by unfold Xs;rw [List.flatMap_append]
theorem Ov(r:List Nd):(Xs r).length=r.length*3:=by
 induction r with
 | nil=>rfl
 | cons x r ih=>rw [Jz,lAh,ih,List.length_cons];simp [Nd.cells];omega
theorem x8b(r:List Nd):∀ (i:Nat) (x:Nd),r[i]?=some x->(Xs r)[i*3]?=some (.int .u32 x.sum)/\(Xs r)[i*3+1]?=some (.string x.key)/\(Xs r)[i*3+2]?=some x.v:=by
 induction r with
 | nil=>intro i x h;simp at h
 | cons y r ih =>
   intro i x h
   cases i with
   | zero=>simp at h;subst h;exact ⟨rfl,rfl,rfl⟩
   | succ i =>
     have:=ih i x (by simpa using h)
     rw [Jz]
     have e:∀ k,(y.cells++Xs r)[(i+1)*3+k]?=(Xs r)[i*3+k]?:=fun k=>by
      rw [List.getElem?_append_right (by simp [Nd.cells];omega)]
      congr 1
      simp [Nd.cells];omega
     exact ⟨by rw [<- this.1];exact e 0,by rw [<- this.2.1];exact e 1,by rw [<- this.2.2];exact e 2⟩
theorem Gv{r:List Nd}(h:∀ x∈r,x.v.oneCell'=true):∀ u∈Xs r,u.oneCell'=true:=by
 intro u hu;obtain ⟨x,hx,hu⟩:=List.mem_flatMap.1 hu;simp only [Nd.cells,List.mem_cons,List.not_mem_nil,or_false] at hu;rcases hu with rfl|rfl|rfl
 ·rfl
 ·rfl
 ·exact h x hx
theorem y5r{v:Value}(h:tyI.ok v):v.oneCell'=true:=by obtain ⟨n,rfl⟩:=h;rfl
structure Far (S:Nat->Prop) (w w':World):Prop where
 os:w'.os=w.os
 tape:w'.tape=w.tape
 output:w'.output=w.output
 size:w.heap.size<=w'.heap.size
 block:∀ k,k<w.heap.size->¬ S k->w'.heap[k]?=w.heap[k]?
theorem Far.refl(S:Nat->Prop)(w:World):Far S w w:=⟨rfl,rfl,rfl,lAd _,fun _ _ _=>rfl⟩
theorem Far.trans{S S1:Nat->Prop}{a b c:World}(h:Far S a b)(g:Far S1 b c)(hs:∀ k,S1 k->S k\/a.heap.size<=k):Far S a c :=
 ⟨g.os.trans h.os,g.tape.trans h.tape,g.output.trans h.output,lAe h.size g.size,fun k hk hn =>
   (g.block k (Nat.lt_of_lt_of_le hk h.size) (fun h1=>by rcases hs k h1 with h2|h2;exact hn h2;omega)).trans (h.block k hk hn)⟩
theorem Far.of_below{S:Nat->Prop}{a b:World}(h:Bl a b):Far S a b:=⟨h.os,h.tape,h.output,h.size,fun k hk _=>h.block k hk⟩
theorem Far.of_grown{S:Nat->Prop}{a b:World}{row:Option Nat}(h:a.grownBy b row)(hr:∀ k,row=some k->S k\/a.heap.size<=k):Far S a b :=
 ⟨h.os,h.tape,h.output,h.size,fun k hk hn=>h.block k hk (fun e=>by rcases hr k e.symm with h1|h1;exact hn h1;omega)⟩
theorem Far.then_below{S:Nat->Prop}{a b c:World}(h:Far S a b)(g:Bl b c):Far S a c:=h.trans (S1:=fun _=>False) (Far.of_below g) (fun _ h=>h.elim)
theorem Far.set{S:Nat->Prop}{a b:World}(h:Far S a b)(p:Addr)(v:Value)(hp:S p.block\/a.heap.size<=p.block):Far S a (b.setCell p v) :=
 h.trans (S1:=fun k=>k=p.block) ⟨rfl,rfl,rfl,by simp [World.setCell],fun k _ hn=>Below.heap_setCell _ _ _ _ hn⟩ (fun k e=>by subst e;exact hp)
theorem Far.mono{S S1:Nat->Prop}{a b:World}(h:Far S a b)(hs:∀ k,S k->S1 k):Far S1 a b:=⟨h.os,h.tape,h.output,h.size,fun k hk hn=>h.block k hk (fun h1=>hn (hs k h1))⟩
theorem Far.blk{S:Nat->Prop}{a b:World}(h:Far S a b){k:Nat}{t:TypeId}{c:Array Value}(hk:Blk a k t c)(hn:¬ S k):Blk b k t c:=(h.block k hk.lt hn).trans hk
theorem Blk.ty{W:World}{k:Nat}{t t':TypeId}{c c':Array Value}(h:Blk W k t c)(h':Blk W k t' c'):t=t':=by
 unfold Blk at h h';rw [h] at h';injection h' with h';injection h' with _ ht
def RowAt(T:Ty)(W:World)(v:Value)(r:List Nd):Prop:=W.ownsRow 0 T.r 3 v r.length (Xs r)
theorem RowAt.nil(T:Ty)(W:World):RowAt T W (.slice none 0 0) []:=World.ownsRow_nil _ _ _ _
theorem RowAt.blk{T:Ty}{W:World}{v:Value}{r:List Nd}(h:RowAt T W v r){k:Nat}(hk:v.ownBlock=some k):∃ c,Blk W k T.r c:=by
 rcases h.2 with ⟨rfl,_⟩|⟨g,cap,cur,rfl,_,hg,_⟩
 ·simp [Value.ownBlock] at hk
 ·simp [Value.ownBlock] at hk;subst hk;exact ⟨cur,hg⟩
theorem RowAt.lt{T:Ty}{W:World}{v:Value}{r:List Nd}(h:RowAt T W v r){k:Nat}(hk:v.ownBlock=some k):k<W.heap.size:=by
 obtain ⟨c,hc⟩:=h.blk hk;exact hc.lt
theorem RowAt.keep{T:Ty}{W W':World}{v:Value}{r:List Nd}(h:RowAt T W v r)(hb:∀ k,v.ownBlock=some k->W'.heap[k]?=W.heap[k]?):RowAt T W' v r:=by
 refine ⟨h.1,?_⟩;rcases h.2 with hn|⟨g,cap,cur,rfl,hb',hg,rest⟩
 ·exact .inl hn
 ·exact .inr ⟨g,cap,cur,rfl,hb',(hb g rfl).trans hg,rest⟩
theorem RowAt.far{T:Ty}{S:Nat->Prop}{W W':World}{v:Value}{r:List Nd}(h:RowAt T W v r)(f:Far S W W')(hs:∀ k,v.ownBlock=some k->¬ S k):RowAt T W' v r :=
 h.keep fun k hk=>f.block k (h.lt hk) (hs k hk)
theorem RowAt.form{T:Ty}{W:World}{v:Value}{r:List Nd}(h:RowAt T W v r):∃ A cap,v=.slice A r.length cap/\r.length<=cap/\cap<=maxLen /\
 (∀ i x,r[i]?=some x->∃ g,A=some ⟨g,0,none⟩/\v.ownBlock=some g/\W.cell? ⟨g,i*3,none⟩=some (.int .u32 x.sum)/\W.cell? ⟨g,i*3+1,none⟩=some (.string x.key)/\W.cell? ⟨g,i*3+2,none⟩=some x.v/\∀ o,W.frozen? ⟨g,o,none⟩=false):=by
 have hO:=h;rcases h.2 with ⟨rfl,h0⟩|⟨g,cap,cur,rfl,_,hg,hl,hm,_⟩
 ·have hr:r=[]:=List.eq_nil_of_length_eq_zero h0;subst hr;exact ⟨none,0,rfl,lAd _,Nat.zero_le _,fun i x hx=>by simp at hx⟩
 ·refine ⟨some ⟨g,0,none⟩,cap,rfl,hl,hm,fun i x hx=>⟨g,rfl,rfl,?_⟩⟩;obtain ⟨hi,_⟩:=lAb.1 hx;obtain ⟨e0,e1,e2⟩:=x8b r i x hx;have hc:=fun j hj=>World.ownsRow.cellAt (w:=W) (base:=0) (e:=T.r) (size:=3) (g:=g) (n:=r.length) (cap:=cap) (xs:=Xs r) hO j hj;exact ⟨(hc _ (by omega)).trans e0,(hc _ (by omega)).trans e1,(hc _ (by omega)).trans e2,fun o=>World.ownsRow.frozenAt (w:=W) (base:=0) (e:=T.r) (size:=3) (g:=g) (n:=r.length) (cap:=cap) (xs:=Xs r) hO o⟩
structure TabAt (T:Ty) (W:World) (g:Nat) (vs:List Value) (rows:List (List Nd)):Prop where
 blk:Blk W g T.t vs.toArray
 len:vs.length=rows.length
 row:∀ (i:Nat) (v:Value) (r:List Nd),vs[i]?=some v->rows[i]?=some r->RowAt T W v r
def Sep(vs:List Value):Prop:=∀ (i j:Nat) (v u:Value) (k:Nat),vs[i]?=some v->vs[j]?=some u->v.ownBlock=some k->u.ownBlock=some k->i=j
def U4(g:Nat)(vs:List Value)(k:Nat):Prop:=k=g\/∃ v∈vs,v.ownBlock=some k
theorem TabAt.rows{T:Ty}{W:World}{g:Nat}{vs:List Value}{rows:List (List Nd)}(h:TabAt T W g vs rows){i:Nat}{v:Value}(hi:vs[i]?=some v):∃ r,rows[i]?=some r/\RowAt T W v r:=by
 obtain ⟨hlt,_⟩:=lAb.1 hi;rw [h.len] at hlt;exact ⟨_,lAa hlt,h.row i v _ hi (lAa hlt)⟩
theorem TabAt.mem{T:Ty}{W:World}{g:Nat}{vs:List Value}{rows:List (List Nd)}(h:TabAt T W g vs rows){v:Value}(hv:v∈vs):∃ r,RowAt T W v r:=by
 obtain ⟨i,hi⟩:=List.getElem?_of_mem hv;obtain ⟨r,_,hr⟩:=h.rows hi;exact ⟨r,hr⟩
theorem TabAt.far{T:Ty}{S:Nat->Prop}{W W':World}{g:Nat}{vs:List Value}{rows:List (List Nd)}(h:TabAt T W g vs rows)(f:Far S W W')(hs:∀ k,U4 g vs k->¬ S k):TabAt T W' g vs rows :=
 ⟨f.blk h.blk (hs _ (.inl rfl)),h.len,fun i v r hv hr=>(h.row i v r hv hr).far f fun k hk=>hs k (.inr ⟨v,lAc hv,hk⟩)⟩
theorem TabAt.later{T:Ty}{W W':World}{g:Nat}{vs:List Value}{rows:List (List Nd)}(h:TabAt T W g vs rows)(hb:Bl W W'):TabAt T W' g vs rows :=
 h.far (S:=fun _=>False) (Far.of_below hb) fun _ _ h=>h
theorem Sep.set{vs:List Value}(h:Sep vs){i:Nat}{v v':Value}(hv:vs[i]?=some v)(hn:∀ k,v'.ownBlock=some k->v.ownBlock=some k\/∀ u∈vs,u.ownBlock≠some k):Sep (vs.set i v'):=by
 have key:∀ (a:Nat) (x:Value) (k:Nat),(vs.set i v')[a]?=some x->x.ownBlock=some k->(a=i/\v'.ownBlock=some k)\/(a≠i/\vs[a]?=some x):=fun a x k ha hx=>by
  by_cases e:a=i
  ·subst e;rw [List.getElem?_set_self (lAb.1 hv).1] at ha
   cases ha
   exact .inl ⟨rfl,hx⟩
  ·rw [List.getElem?_set_ne (fun h=>e h.symm)] at ha;exact .inr ⟨e,ha⟩
 intro a b x y k ha hb hx hy;rcases key a x k ha hx with ⟨rfl,h1⟩|⟨h1,h2⟩ <;> rcases key b y k hb hy with ⟨rfl,h3⟩|⟨h3,h4⟩
 ·rfl
 ·rcases hn k h1 with h5|h5
  ·exact h a b v y k hv h4 h5 hy
  ·exact absurd hy (h5 y (lAc h4))
 ·rcases hn k h3 with h5|h5
  ·exact h a b x v k h2 hv hx h5
  ·exact absurd hx (h5 x (lAc h2))
 ·exact h a b x y k h2 h4 hx hy
theorem Sep.left{a b:List Value}(h:Sep (a++b)):Sep a:=fun i j v u k hi hj hv hu =>
 h i j v u k ((List.getElem?_append_left (lAb.1 hi).1).trans hi) ((List.getElem?_append_left (lAb.1 hj).1).trans hj) hv hu
theorem Sep.right{a b:List Value}(h:Sep (a++b)):Sep b:=fun i j v u k hi hj hv hu=>by
 have e:∀ n,(a++b)[a.length+n]?=b[n]?:=fun n=>by rw [List.getElem?_append_right (by omega)];congr 1;omega
 have:=h (a.length+i) (a.length+j) v u k ((e i).trans hi) ((e j).trans hj) hv hu
 omega
theorem Sep.apart{a b:List Value}(h:Sep (a++b)){v u:Value}{k:Nat}(hv:v∈a)(hu:u∈b)(h1:v.ownBlock=some k):u.ownBlock≠some k:=fun h2=>by
 obtain ⟨i,hi⟩:=List.getElem?_of_mem hv;obtain ⟨j,hj⟩:=List.getElem?_of_mem hu
 have:=h i (a.length+j) v u k ((List.getElem?_append_left (lAb.1 hi).1).trans hi) (by rw [List.getElem?_append_right (by omega)];rw [<- hj];congr 1;omega) h1 h2
 have:=(lAb.1 hi).1
 omega
theorem Sep.join{a b:List Value}(ha:Sep a)(hb:Sep b)(hab:∀ v∈a,∀ u∈b,∀ k,v.ownBlock=some k->u.ownBlock≠some k):Sep (a++b):=by
 intro i j v u k hi hj hv hu;rcases Nat.lt_or_ge i a.length with h1|h1 <;> rcases Nat.lt_or_ge j a.length with h2|h2
 ·rw [List.getElem?_append_left h1] at hi;rw [List.getElem?_append_left h2] at hj;exact ha i j v u k hi hj hv hu
 ·rw [List.getElem?_append_left h1] at hi;rw [List.getElem?_append_right h2] at hj;exact absurd hu (hab v (lAc hi) u (lAc hj) k hv)
 ·rw [List.getElem?_append_right h1] at hi;rw [List.getElem?_append_left h2] at hj;exact absurd hv (hab u (lAc hj) v (lAc hi) k hu)
 ·rw [List.getElem?_append_right h1] at hi;rw [List.getElem?_append_right h2] at hj
  have:=hb _ _ v u k hi hj hv hu;omega
theorem Sep.none{vs:List Value}(h:∀ v∈vs,v.ownBlock=none):Sep vs:=fun i j v u k hi _ hv _=>by rw [h v (lAc hi)] at hv;cases hv
end Go.Proofs.YtcklcmafohlflaaGreatDoor.Dc
namespace Go.Proofs.YtcklcmafohlflaaGreatDoor.Dc
open Zc
open Go.RowKit Go.Shelf
attribute [local go_sem] Oper.semAt_some
def Vs(rows:List (List Nd))(x:Nd):List (List Nd):=rows.set (x.sum % rows.length) (rows.getD (x.sum % rows.length) []++[x])
def Xe(rows:List (List Nd))(xs:List Nd):List (List Nd):=xs.foldl Vs rows
theorem Yz(rows:List (List Nd))(x:Nd):(Vs rows x).length=rows.length:=by unfold Vs;rw [List.length_set]
theorem Yp(xs:List Nd):∀ rows:List (List Nd),(Xe rows xs).length=rows.length:=by
 induction xs with
 | nil=>intro rows;rfl
 | cons x xs ih=>intro rows;exact (ih _).trans (Yz rows x)
theorem I8(rows:List (List Nd))(xs:List Nd)(i:Nat)(x:Nd)(hx:xs[i]?=some x):Xe rows (xs.take (i+1))=Vs (Xe rows (xs.take i)) x:=by
 obtain ⟨hi,he⟩:=lAb.1 hx;rw [lAf hi,he];unfold Xe;rw [List.foldl_append];rfl
theorem x0h(rows:List (List Nd)):∀ (i:Nat) (r:List Nd) (x:Nd),rows[i]?=some r->(rows.set i (r++[x])).flatten.length=rows.flatten.length+1:=by
 induction rows with
 | nil=>intro i r x h;simp at h
 | cons y rows ih =>
   intro i r x h
   cases i with
   | zero=>simp at h;subst h;simp;omega
   | succ i=>have:=ih i r x (by simpa using h);simp at this ⊢;omega
theorem Gd(rows:List (List Nd))(x:Nd)(h:0<rows.length):(Vs rows x).flatten.length=rows.flatten.length+1:=by
 have hlt:x.sum % rows.length<rows.length:=Nat.mod_lt _ h;unfold Vs;rw [List.getD_eq_getElem?_getD,lAa hlt];exact x0h rows _ _ x (lAa hlt)
theorem Gc(xs:List Nd):∀ rows:List (List Nd),0<rows.length->(Xe rows xs).flatten.length=rows.flatten.length+xs.length:=by
 induction xs with
 | nil=>intro rows _;rfl
 | cons x xs ih =>
   intro rows h
   have:=ih (Vs rows x) (by rw [Yz];exact h)
   rw [Gd rows x h] at this;show (Xe (Vs rows x) xs).flatten.length=_;rw [this,List.length_cons];omega
theorem Gg(rows:List (List Nd)):∀ r∈rows,r.length<=rows.flatten.length:=by
 induction rows with
 | nil=>intro r h;simp at h
 | cons y rows ih =>
   intro r h;rcases List.mem_cons.1 h with rfl|h
   ·simp
   ·have:=ih r h;simp at this ⊢;omega
theorem Gz:(Tryz.prog.info? 300).map (fun i=>(i.zero,i.size,i.bytes))=some (some (.agg #[.int .u32 0,.string ⟨#[]⟩,.int .i64 0]),3,32):=by kernel_rfl
theorem Vg{P:Program}{ops:Array Oper}{o:Oper}{a:Act}{w w':World}{K:Act->World->Prop}{Q:Exit->Act->World->Prop}{E:Prop}{v xv v':Value}(hgd:o.guard=none)(s x:Operand)(t u:TypeId)
 (ho:o.op=Op.call { callee:=Callee.builtin Builtin.append,args:=#[s,x],argTypes:=#[t,u] }) (hs:a.eval s=v) (hx:a.eval x=xv) (hrun:(Builtin.append_ #[t,u] o.type #[v,xv]).run P w=.ok v' w')
 (h:K (a.put o.dst v') w'):if Region.wanted o (yielded ops a.tmps)=true then Oper.wp P o a w K Q else E:=by
 have hw:Region.wanted o (yielded ops a.tmps)=true:=by simp [Region.wanted,hgd]
 rw [if_pos hw];unfold Oper.wp;simp [execOp,ho,resolve,invoke,builtin,hs,hx,hrun,Result.andThen];exact h
theorem Bt{W W6:World}{vj:Value}{rj:List Nd}(hown:RowAt tyI W vj rj)(hb:Bl W W6)(x:Nd)(hx:tyI.ok x.v)(hl:rj.length<=1000000) :
 ∃ gg cap' W7,(Builtin.append_ #[301,301] 301 #[vj,.slice (some ⟨W6.heap.size,0,none⟩) 1 1]).run Tryz.prog (W6.alloc (.cells x.cells.toArray 300))=.ok (.slice (some ⟨gg,0,none⟩) (rj.length+1) cap') W7 /\
  RowAt tyI W7 (.slice (some ⟨gg,0,none⟩) (rj.length+1) cap') (rj++[x])/\(W6.alloc (.cells x.cells.toArray 300)).grownBy W7 vj.ownBlock/\(vj.ownBlock=some gg\/gg=W6.heap.size+1):=by
 obtain ⟨i0,hi0,hz0,hz1,hz2⟩:=info_parts Gz;have hk:RowAt tyI (W6.alloc (.cells x.cells.toArray 300)) vj rj:=(hown.far (S:=fun _=>False) (Far.of_below hb) fun _ _ h=>h).far (S:=fun _=>False) (Far.of_below ((Below.refl _ _).alloc (lAd _) _)) fun _ _ h=>h
 obtain ⟨v',w',hrun,r1,r2,r3,r4⟩:=run_append_own_at (P:=Tryz.prog) (W6.alloc (.cells x.cells.toArray 300)) 0 301 301 300 i0 _ 3 32 Tryz.underlying301 hi0 hz0 hz1 hz2 rfl (by decide) vj _ _ hk ⟨W6.heap.size,0,none⟩ 1 1 x.cells rfl
  (World.news_of_block (cs:=x.cells.toArray) (t:=300) (fr:=(0,0)) (heap_alloc_new _ _)) (fun u hu=>Gv (r:=[x]) (fun y hy=>by simp at hy;subst hy;exact y5r hx) u (by simpa [Xs] using hu)) (by unfold maxLen;omega) (by omega) (Nat.zero_le _)
 have r1':RowAt tyI w' v' (rj++[x]):=by
  unfold RowAt;rw [Vo,lAh]
  simpa [Xs,tyI] using r1
 rcases r1.2 with ⟨rfl,h0⟩|⟨gg,cap',cur,rfl,_⟩
 ·omega
 ·refine ⟨gg,cap',w',hrun,r1',r2,?_⟩;rcases r4 with h|h
  ·exact .inl h.symm
  ·right;simp [Value.ownBlock] at h;omega
def PutI(w:World)(g:Nat)(vs:List Value)(rows:List (List Nd))(xs:List Nd)(k:Nat)(wr:World):Prop :=
 ∃ vs',TabAt tyI wr g vs' (Xe rows (xs.take k))/\Sep vs'/\(∀ u∈vs',∀ k,u.ownBlock=some k->(∃ u0∈vs,u0.ownBlock=some k)\/w.heap.size<=k)/\Far (U4 g vs) w wr
theorem PutI.step{w:World}{g:Nat}{vs:List Value}{rows:List (List Nd)}{xs:List Nd}{k:Nat}{wr w1 W6 W7:World}{vs':List Value}
 (hT:TabAt tyI wr g vs' (Xe rows (xs.take k))) (hS:Sep vs') (hI:∀ u∈vs',∀ k,u.ownBlock=some k->(∃ u0∈vs,u0.ownBlock=some k)\/w.heap.size<=k) (hF:Far (U4 g vs) w wr)
 (hb1:Bl wr w1) (hb6:Bl w1 W6) {x:Nd} (hx:xs[k]?=some x) {vj:Value} (hvj:vs'[x.sum % rows.length]?=some vj) {o:Obj} {gg cap':Nat}
 (r1:RowAt tyI W7 (.slice (some ⟨gg,0,none⟩) (((Xe rows (xs.take k)).getD (x.sum % rows.length) []).length+1) cap') ((Xe rows (xs.take k)).getD (x.sum % rows.length) []++[x]))
 (r2:(W6.alloc o).grownBy W7 vj.ownBlock) (r3:vj.ownBlock=some gg\/gg=W6.heap.size+1) :
 PutI w g vs rows xs (k+1) (W7.setCell ⟨g,x.sum % rows.length,none⟩ (.slice (some ⟨gg,0,none⟩) (((Xe rows (xs.take k)).getD (x.sum % rows.length) []).length+1) cap')):=by
 obtain ⟨rj,hrj,hRj⟩:=hT.rows hvj;have hpl:=Yp (xs.take k) rows;have hsz1:=hb1.size;have hsz6:=hb6.size;have hsz7:=r2.size;have hval:W6.heap.size+1<=W7.heap.size:=by simpa using hsz7
 have hin:∀ {b},vj.ownBlock=some b->U4 g vs' b:=fun h=>.inr ⟨vj,lAc hvj,h⟩
 -- all that the append may change
 have f7:Far (fun b=>vj.ownBlock=some b) wr W7:=by
  refine Far.trans (S1:=fun b=>vj.ownBlock=some b) (((Far.of_below hb1).then_below hb6).then_below (((Below.refl _ _).alloc (lAd _) o))) (Far.of_grown r2 fun k e=>.inl e) (fun b hb=>.inl hb)
 have hjl:x.sum % rows.length<vs'.length:=(lAb.1 hvj).1
 have hne:∀ b,vj.ownBlock=some b->b≠g:=fun b hb e=>by
  subst e;obtain ⟨c,hc⟩:=hRj.blk hb;exact absurd (hc.ty hT.blk) (by decide)
 have hbg:Blk W7 g 301 vs'.toArray:=f7.blk hT.blk (fun h=>hne g h rfl)
 have hgg:gg≠g:=by
  rcases r3 with h|h
  ·exact hne gg h
  ·have:=hT.blk.lt;omega
 refine ⟨vs'.set (x.sum % rows.length) (.slice (some ⟨gg,0,none⟩) (((Xe rows (xs.take k)).getD (x.sum % rows.length) []).length+1) cap'),⟨?_,?_,?_⟩,?_,?_,?_⟩
 ·have:=hbg.set (x.sum % rows.length) (.slice (some ⟨gg,0,none⟩) (((Xe rows (xs.take k)).getD (x.sum % rows.length) []).length+1) cap')
  rwa [List.setIfInBounds_toArray] at this
 ·rw [List.length_set,I8 rows xs k x hx,Yz,hT.len]
 ·intro i v r hv hr;rw [I8 rows xs k x hx] at hr;unfold Vs at hr;rw [hpl] at hr
  by_cases e:i=x.sum % rows.length
  ·subst e;rw [List.getElem?_set_self hjl] at hv;rw [List.getElem?_set_self (by rw [<- hT.len];exact hjl)] at hr
   cases hv;cases hr
   refine r1.far (S:=fun b=>b=g) ((Far.refl _ _).set _ _ (.inl rfl)) ?_;intro b hb e;simp [Value.ownBlock] at hb;omega
  ·rw [List.getElem?_set_ne (fun h=>e h.symm)] at hv hr;have h0:=hT.row i v r hv hr;have h7:RowAt tyI W7 v r:=h0.far f7 fun b hb h=>e (hS i _ v vj b hv hvj hb h);refine h7.far (S:=fun b=>b=g) ((Far.refl _ _).set _ _ (.inl rfl)) ?_;intro b hb e2;subst e2;obtain ⟨c,hc⟩:=h0.blk hb;exact absurd (hc.ty hT.blk) (by decide)
 ·refine hS.set hvj fun b hb=>?_;simp [Value.ownBlock] at hb;subst hb;rcases r3 with h|h
  ·exact .inl h
  ·right
   intro u hu hu2;obtain ⟨r,hr⟩:=hT.mem hu
   have:=hr.lt hu2
   omega
 ·intro u hu b hb;rcases List.mem_or_eq_of_mem_set hu with h|rfl
  ·exact hI u h b hb
  ·simp [Value.ownBlock] at hb;subst hb;rcases r3 with h|h
   ·exact hI vj (lAc hvj) _ h
   ·right;have:=hF.size;omega
 ·refine Far.set (hF.trans f7 fun b hb=>?_) _ _ (.inl (.inl rfl));rcases hI vj (lAc hvj) b hb with ⟨u0,h1,h2⟩|h
  ·exact .inl (.inr ⟨u0,h1,h2⟩)
  ·exact .inr h
theorem Mt(g:Nat)(vs:List Value)(rows:List (List Nd))(v:Value)(xs:List Nd)(w:World)(hT:TabAt tyI w g vs rows)(hS:Sep vs)(hz:isS (rows.length:Int)=true)
 (hr:RowAt tyI w v xs) (hv:∀ u∈vs,∀ k,u.ownBlock=some k->v.ownBlock≠some k) (hf:∀ x∈xs,x.fine tyI) (hn:rows.flatten.length+xs.length<=1000000) :
 Calls Tryz.prog 190 #[.slice (some ⟨g,0,none⟩) rows.length rows.length,v] w fun e w'=>e=.returned (.tuple #[])/\PutI w g vs rows xs xs.length w':=by
 have hvg:∀ k,v.ownBlock=some k->¬ U4 g vs k:=fun k hk h=>by
  rcases h with rfl|⟨u,hu,hu2⟩
  ·obtain ⟨c,hc⟩:=hr.blk hk
   have:=hc.ty hT.blk
   exact absurd this (by decide)
  ·exact hv u hu k hu2 hk
 have hn1:=Zp hz;have H0:PutI w g vs rows xs 0 w:=⟨vs,hT,hS,fun u hu k hk=>.inl ⟨u,hu,hk⟩,Far.refl _ _⟩;have hfar:∀ k wr,PutI w g vs rows xs k wr->RowAt tyI wr v xs:=fun k wr ⟨_,_,_,_,f⟩=>hr.far f hvg;have HFAR:=jY hfar;clear hfar;obtain ⟨A,cap,rfl,hcap,hmax,hat⟩:=hr.form;clear hat;have hn2:(xs.length:Int)<=1000000:=by omega
 have hn3:(4:Int)<=rows.length:=by omega
 have HI:=fun (s:Nat) hs w=>jY (O1 s hs rows.length w);unfold Ip at HI;simp only [hz,if_true] at HI;have HF:=jY hf;clear hf hz hS hT hr hv hvg
 go_enter Tryz.func190,Tryz.ntmps190
 go_wp2
 go_loopw [10] (fun i wr=>∃ (k:Nat),i=.int .i64 k/\k<=xs.length/\PutI w g vs rows xs k wr) (fun i _=>xs.length-(intOf i).toNat)
 case atStart=>exact ⟨0,rfl,by omega,H0⟩
 case round =>
  obtain ⟨k,rfl,hk,hP⟩:=hrel
  by_cases hlt:k<xs.length
  ·have hx:xs[k]?=some xs[k]:=lAa hlt;obtain ⟨A',cap',he,_,_,hat⟩:=(HFAR.out _ _ hP).form;obtain ⟨gv,hA,hob,c0,c1,c2,fz⟩:=hat k _ hx
   cases he
   subst hA;generalize xs[k]=x at *;obtain ⟨hx1,hx2⟩:=HF.out x (lAc hx);obtain ⟨sum,key,vv⟩:=x;obtain ⟨nv,hnv⟩:=hx2;simp only at hnv hx1 c0 c1 c2;subst hnv;obtain ⟨vs',hT,hS,hI,hF⟩:=hP;have hpl:=Yp (xs.take k) rows;have hj:sum % rows.length<rows.length:=Nat.mod_lt _ (by omega);have hvl:vs'.length=rows.length:=hT.len.trans hpl;obtain ⟨vj,hvj⟩:∃ vj,vs'[sum % rows.length]?=some vj:=⟨_,lAa (by omega)⟩;obtain ⟨rj,hrj,hRj⟩:=hT.rows hvj
   have hrl:rj.length<=1000000:=by
    have h1:=Gg _ rj (lAc hrj);have h2:=Gc (xs.take k) rows (by omega);have h3:(xs.take k).length<=xs.length:=by rw [List.length_take];omega
    omega
   have hgd:(Xe rows (xs.take k)).getD (sum % rows.length) []=rj:=by rw [List.getD_eq_getElem?_getD,hrj];rfl
   have hcg:∀ W,Bl wr W->W.cell? ⟨g,sum % rows.length,none⟩=some vj/\W.frozen? ⟨g,sum % rows.length,none⟩=false:=fun W hW=>by
    have hB:=hT.blk.later hW;exact ⟨by rw [hB.cell];simpa using hvj,hB.free _⟩
   have hgl:=hT.blk.lt
   have hog:vj.ownBlock≠some g:=fun h=>by
    obtain ⟨c,hc⟩:=hRj.blk h;exact absurd (hc.ty hT.blk) (by decide)
   have HI2:=fun w=>HI sum hx1 w;have hje:(sum:Int) % (rows.length:Int)=((sum % rows.length:Nat):Int):=by omega
   simp only [hje] at HI2;have HSTEP:=fun w1 W6 W7 (b1:Bl wr w1) (b6:Bl w1 W6) o gg cap' r1 r2 r3=>jY (PutI.step (w:=w) (vs:=vs) (rows:=rows) (k:=k) (W7:=W7) hT hS hI hF b1 b6 hx hvj (o:=o) (gg:=gg) (cap':=cap') r1 r2 r3);simp only [hgd] at HSTEP;have hja:=jY hj;generalize sum % rows.length=j at *;have HAPP:=fun W6 (b:Bl wr W6)=>jY (Bt hRj b ⟨sum,key,.int .i64 nv⟩ ⟨nv,rfl⟩ hrl);have hj2:(j:Int)<rows.length:=by omega
   clear hx fz hje hgd hrj hRj hT hS hI hF hvl hpl hvj hj HI HF HFAR H0;go_wp2_with fail;refine (HI2 _).out.mono ?_;rintro e w1 ⟨rfl,hb1⟩;have hbw:Bl wr w1:=((Below.refl _ _).alloc (lAd _) _).trans (hb1.mono (by simp));have k5:=(Blk.new wr 300 #[Value.int IntKind.u32 ↑sum,Value.string key,Value.int IntKind.i64 nv]).later (by simpa using hb1);obtain ⟨e0,f0⟩:=hcg _ hbw;obtain ⟨gg,cap7,W7,hrun,r1,r2,r3⟩:=(HAPP _ (hbw.drew)).out;obtain ⟨e6,f6⟩:=hcg _ (hbw.alloc hbw.size (Obj.cells #[Value.int IntKind.u32 ↑sum,Value.string key,Value.int IntKind.i64 nv] 300));have e7:W7.cell? ⟨g,j,none⟩=some vj:=(r2.cell_far ⟨g,j,none⟩ (by have:=hbw.size;simp;omega) (fun h=>hog h.symm)).trans e6;have f7:W7.frozen? ⟨g,j,none⟩=false:=(r2.frozen_far ⟨g,j,none⟩ (by have:=hbw.size;simp;omega) (fun h=>hog h.symm)).trans f6;have d0:=k5.cell 0;have d1:=k5.cell 1;have d2:=k5.cell 2;have z1:=hbw.size;have H1:=jY r1;have H2:=jY r2;have H3:=jY r3;have HB:=jY hbw;clear r1 r2 r3 hbw hb1 k5;unfold Nd.cells at hrun H2;go_wp2
   go_region_law (refine Vg rfl _ _ 301 301 (by rfl) (by rfl) (by rfl) hrun ?_)
   all_goals (
    go_wp2;refine ⟨⟨k+1,by go_num,hlt,?_⟩,by simp [intOf];omega⟩
    exact (HSTEP w1 w1.drew W7 HB.out ((Below.refl _ _).drew) _ gg cap7 H1.out H2.out H3.out).out)
  ·obtain rfl:k=xs.length:=by omega
   go_wp2;go_returns;exact ⟨rfl,hP⟩
structure Dc where
 a:List (List Nd)
 b:List (List Nd)
 place:Nat
 n:Nat
def CellB(T:Ty)(W:World)(k:Nat):Prop:=∃ t c,(t=T.d\/t=T.t\/t=T.r)/\Blk W k t c
structure Mem (T:Ty) (W:World) (p g0 g1:Nat) (A1:Option Addr) (va vb:List Value) (seed:Nat) (D:Dc):Prop where
 dict:Blk W p T.d #[.slice (some ⟨g0,0,none⟩) D.a.length D.a.length,.slice A1 D.b.length D.b.length,.int .u32 seed,.int .i64 D.place,.int .i64 D.n]
 ta:TabAt T W g0 va D.a
 tb:(D.b=[]/\vb=[]/\A1=none)\/(D.b≠[]/\A1=some ⟨g1,0,none⟩/\g1≠g0/\TabAt T W g1 vb D.b)
 sep:Sep (va++vb)
structure Foot (S:Nat->Prop) (p g0 g1:Nat) (va vb:List Value) (D:Dc):Prop where
 p:S p
 g0:S g0
 g1:D.b≠[]->S g1
 row:∀ v∈va++vb,∀ k,v.ownBlock=some k->S k
def Rep(T:Ty)(W:World)(p:Nat)(S:Nat->Prop)(seed:Nat)(D:Dc):Prop :=
 ∃ g0 g1 A1 va vb,Mem T W p g0 g1 A1 va vb seed D/\Foot S p g0 g1 va vb D/\∀ k,S k->CellB T W k
theorem CellB.lt{T:Ty}{W:World}{k:Nat}(h:CellB T W k):k<W.heap.size:=by obtain ⟨t,c,_,hb⟩:=h;exact hb.lt
theorem CellB.same{T:Ty}{W W':World}{k:Nat}(h:CellB T W k)(e:W'.heap[k]?=W.heap[k]?):CellB T W' k:=by obtain ⟨t,c,ht,hb⟩:=h;exact ⟨t,c,ht,e.trans hb⟩
theorem Far.keeps{T:Ty}{S:Nat->Prop}{a b:World}(h:Far S a b)(hS:∀ k,S k->CellB T a k)(B:Nat):KeepsFrom B a b :=
 ⟨h.size,fun k o _ hk ho=>(h.block k (Array.getElem?_eq_some_iff.1 hk).1 (fun hs=>by
   obtain ⟨t,c,_,hb⟩:=hS k hs;rw [show a.heap[k]?=_ from hb] at hk
   cases hk;cases ho)).trans hk⟩
theorem Far.keepc{T:Ty}{S:Nat->Prop}{a b:World}(h:Far S a b)(hS:∀ k,S k->CellB T a k)(hT:¬ itT T.d/\¬ itT T.t/\¬ itT T.r)(L:List Nat):KeepC itT L a b :=
 ⟨h.size,fun k c t _ ht hk=>(h.block k (Array.getElem?_eq_some_iff.1 hk).1 (fun hs=>by
   obtain ⟨t',c',ht',hb⟩:=hS k hs;rw [Blk.ty hk hb] at ht;rcases ht' with rfl|rfl|rfl
   ·exact hT.1 ht
   ·exact hT.2.1 ht
   ·exact hT.2.2 ht)).trans hk⟩
def V3(T:Ty)(S:Nat->Prop)(W W':World)(k:Nat):Prop:=(S k\/W.heap.size<=k)/\CellB T W' k
def Went(T:Ty)(S:Nat->Prop)(W:World)(p seed:Nat)(D:Dc)(W':World):Prop:=Rep T W' p (V3 T S W W') seed D/\Far S W W'
theorem Mem.far{T:Ty}{S:Nat->Prop}{W W':World}{p g0 g1:Nat}{A1:Option Addr}{va vb:List Value}{seed:Nat}{D:Dc}(h:Mem T W p g0 g1 A1 va vb seed D)(f:Far S W W')
 (hp:¬ S p) (h0:¬ S g0) (h1:D.b≠[]->¬ S g1) (hr:∀ v∈va++vb,∀ k,v.ownBlock=some k->¬ S k):Mem T W' p g0 g1 A1 va vb seed D :=
 ⟨f.blk h.dict hp,h.ta.far f (fun k hk=>by
   rcases hk with rfl|⟨v,hv,hk⟩
   ·exact h0
   ·exact hr v (List.mem_append_left _ hv) k hk),by
   rcases h.tb with h2|⟨h2,h3,h4,h5⟩
   ·exact .inl h2
   ·refine .inr ⟨h2,h3,h4,h5.far f fun k hk=>?_⟩;rcases hk with rfl|⟨v,hv,hk⟩
    ·exact h1 h2
    ·exact hr v (List.mem_append_right _ hv) k hk,h.sep⟩
theorem Mem.later{T:Ty}{W W':World}{p g0 g1:Nat}{A1:Option Addr}{va vb:List Value}{seed:Nat}{D:Dc}(h:Mem T W p g0 g1 A1 va vb seed D)(hb:Bl W W'):Mem T W' p g0 g1 A1 va vb seed D :=
 h.far (S:=fun _=>False) (Far.of_below hb) (fun h=>h) (fun h=>h) (fun _ h=>h) (fun _ _ _ _ h=>h)
theorem Rep.far{T:Ty}{S S1:Nat->Prop}{W W':World}{p seed:Nat}{D:Dc}(h:Rep T W p S seed D)(f:Far S1 W W')(hd:∀ k,S k->¬ S1 k):Rep T W' p S seed D:=by
 obtain ⟨g0,g1,A1,va,vb,hm,hf,hc⟩:=h;exact ⟨g0,g1,A1,va,vb,hm.far f (hd _ hf.p) (hd _ hf.g0) (fun h=>hd _ (hf.g1 h)) (fun v hv k hk=>hd _ (hf.row v hv k hk)),hf,fun k hk=>(hc k hk).same (f.block k (hc k hk).lt (hd k hk))⟩
theorem Rep.later{T:Ty}{S:Nat->Prop}{W W':World}{p seed:Nat}{D:Dc}(h:Rep T W p S seed D)(hb:Bl W W'):Rep T W' p S seed D :=
 h.far (S1:=fun _=>False) (Far.of_below hb) fun _ _ h=>h
theorem Rep.cells{T:Ty}{S:Nat->Prop}{W:World}{p seed:Nat}{D:Dc}(h:Rep T W p S seed D):∀ k,S k->CellB T W k:=by obtain ⟨_,_,_,_,_,_,_,hc⟩:=h;exact hc
theorem Rep.wide{T:Ty}{S S1:Nat->Prop}{W:World}{p seed:Nat}{D:Dc}(h:Rep T W p S seed D)(hs:∀ k,S k->S1 k)(hc:∀ k,S1 k->CellB T W k):Rep T W p S1 seed D:=by
 obtain ⟨g0,g1,A1,va,vb,hm,hf,_⟩:=h;exact ⟨g0,g1,A1,va,vb,hm,⟨hs _ hf.p,hs _ hf.g0,fun h=>hs _ (hf.g1 h),fun v hv k hk=>hs _ (hf.row v hv k hk)⟩,hc⟩
theorem Went.start{T:Ty}{S:Nat->Prop}{W:World}{p seed:Nat}{D:Dc}(h:Rep T W p S seed D):Went T S W p seed D W :=
 ⟨h.wide (fun k hk=>⟨.inl hk,h.cells k hk⟩) (fun _ hk=>hk.2),Far.refl _ _⟩
theorem Went.trans{T:Ty}{S:Nat->Prop}{W W1 W2:World}{p seed:Nat}{D D2:Dc}(h:Went T S W p seed D W1)(g:Went T (V3 T S W W1) W1 p seed D2 W2):Went T S W p seed D2 W2 :=
 ⟨g.1.wide (fun k hk=>⟨by
   rcases hk.1 with h1|h1
   ·exact h1.1
   ·exact .inr (lAe h.2.size h1),hk.2⟩) (fun _ hk=>hk.2),h.2.trans g.2 fun k hk=>hk.1⟩
theorem Went.later{T:Ty}{S:Nat->Prop}{W W1 W2:World}{p seed:Nat}{D:Dc}(h:Went T S W p seed D W1)(hb:Bl W1 W2):Went T S W p seed D W2 :=
 ⟨(h.1.later hb).wide (fun k hk=>⟨hk.1,hk.2.same (hb.block k hk.2.lt)⟩) (fun _ hk=>hk.2),h.2.then_below hb⟩
theorem Went.since{T:Ty}{S:Nat->Prop}{W W1 W2:World}{p seed:Nat}{D:Dc}(hb:Bl W W1)(h:Went T S W1 p seed D W2):Went T S W p seed D W2 :=
 ⟨h.1.wide (fun k hk=>⟨by
   rcases hk.1 with h1|h1
   ·exact .inl h1
   ·exact .inr (lAe hb.size h1),hk.2⟩) (fun _ hk=>hk.2),(Far.of_below hb).trans h.2 fun k hk=>.inl hk⟩
theorem Went.mk'{T:Ty}{S:Nat->Prop}{W W':World}{p g0 g1:Nat}{A1:Option Addr}{va vb:List Value}{seed:Nat}{D:Dc}(hm:Mem T W' p g0 g1 A1 va vb seed D)(hf:Far S W W')
 (hp:S p\/W.heap.size<=p) (h0:S g0\/W.heap.size<=g0) (h1:D.b≠[]->S g1\/W.heap.size<=g1) (hr:∀ v∈va++vb,∀ k,v.ownBlock=some k->S k\/W.heap.size<=k):Went T S W p seed D W':=by
 refine ⟨⟨g0,g1,A1,va,vb,hm,⟨⟨hp,?_⟩,⟨h0,?_⟩,fun h=>⟨h1 h,?_⟩,fun v hv k hk=>⟨hr v hv k hk,?_⟩⟩,fun _ hk=>hk.2⟩,hf⟩
 ·exact ⟨_,_,.inl rfl,hm.dict⟩
 ·exact ⟨_,_,.inr (.inl rfl),hm.ta.blk⟩
 ·rcases hm.tb with ⟨h2,_⟩|⟨_,_,_,h2⟩
  ·exact absurd h2 h
  ·exact ⟨_,_,.inr (.inl rfl),h2.blk⟩
 ·rcases List.mem_append.1 hv with h|h
  ·obtain ⟨r,hr⟩:=hm.ta.mem h;obtain ⟨c,hc⟩:=hr.blk hk;exact ⟨_,c,.inr (.inr rfl),hc⟩
  ·rcases hm.tb with ⟨_,h2,_⟩|⟨_,_,_,h2⟩
   ·rw [h2] at h;simp at h
   ·obtain ⟨r,hr⟩:=h2.mem h;obtain ⟨c,hc⟩:=hr.blk hk;exact ⟨_,c,.inr (.inr rfl),hc⟩
theorem Zy{T:Ty}{W:World}{p g0 g1:Nat}{A1:Option Addr}{va vb:List Value}{seed:Nat}{D:Dc}(h:Mem T W p g0 g1 A1 va vb seed D) :
 W.cell? ⟨p,0,none⟩=some (.slice (some ⟨g0,0,none⟩) D.a.length D.a.length)/\W.cell? ⟨p,1,none⟩=some (.slice A1 D.b.length D.b.length)/\W.cell? ⟨p,2,none⟩=some (.int .u32 seed) /\
 W.cell? ⟨p,3,none⟩=some (.int .i64 D.place)/\W.cell? ⟨p,4,none⟩=some (.int .i64 D.n)/\W.frozen? ⟨p,0,none⟩=false/\W.frozen? ⟨p,1,none⟩=false/\W.frozen? ⟨p,3,none⟩=false/\W.frozen? ⟨p,4,none⟩=false :=
 ⟨h.dict.cell 0,h.dict.cell 1,h.dict.cell 2,h.dict.cell 3,h.dict.cell 4,h.dict.free 0,h.dict.free 1,h.dict.free 3,h.dict.free 4⟩
structure Dc.Ok (T:Ty) (D:Dc):Prop where
 a:isS (D.a.length:Int)=true
 b:D.b≠[]->isS (D.b.length:Int)=true
 place:D.b≠[]->D.place<D.a.length
 still:D.b=[]->D.place=0
 past:∀ i,i<D.place->D.a.getD i []=[]
 n:D.n=D.a.flatten.length+D.b.flatten.length
 fine:∀ r,r∈D.a\/r∈D.b->∀ x∈r,x.fine T
def Dc.moving(D:Dc):Bool:=decide (0<D.b.length)
section
variable {S:Nat->Prop} {p seed:Nat} {D:Dc} {w:World}
theorem Vb(h:Rep tyI w p S seed D):Calls Tryz.prog 215 #[.pointer (some ⟨p,0,none⟩)] w fun e w'=>e=.returned (.bool D.moving)/\w'=w:=by
 obtain ⟨g0,g1,A1,va,vb,hm,hf,hc⟩:=h;obtain ⟨c0,c1,c2,c3,c4,f0,f1,f3,f4⟩:=Zy hm;unfold Dc.moving
 go_enter Tryz.func215,Tryz.ntmps215
 go_wp2;go_ret;exact ⟨by simp,rfl⟩
theorem G9{g0 g1:Nat}{A1:Option Addr}{va vb:List Value}(h:Mem tyI w p g0 g1 A1 va vb seed D)(hf:Foot S p g0 g1 va vb D)(hc:∀ k,S k->CellB tyI w k) :
 Calls Tryz.prog 189 #[.pointer (some ⟨p,0,none⟩)] w fun e w'=>e=.returned (bif D.moving then .slice A1 D.b.length D.b.length else .slice (some ⟨g0,0,none⟩) D.a.length D.a.length)/\w'=w:=by
 have hm:=Vb (w:=w) ⟨g0,g1,A1,va,vb,h,hf,hc⟩;obtain ⟨c0,c1,c2,c3,c4,f0,f1,f3,f4⟩:=Zy h
 cases hmv:D.moving with
 | false =>
   rw [hmv] at hm;have HM:=jY hm;clear hm hmv
   go_enter Tryz.func189,Tryz.ntmps189
   go_wp2_with fail;refine HM.out.mono ?_;rintro e w' ⟨rfl,rfl⟩;go_wp2;go_ret;exact ⟨rfl,rfl⟩
 | true =>
   rw [hmv] at hm;have HM:=jY hm;clear hm hmv
   go_enter Tryz.func189,Tryz.ntmps189
   go_wp2_with fail;refine HM.out.mono ?_;rintro e w' ⟨rfl,rfl⟩;go_wp2;go_ret;exact ⟨rfl,rfl⟩
theorem Vw(hsd:seed<4294967296)(h:Rep tyI w p S seed D)(key:ByteArray)(hk:key.size<=281474976710656) :
 Calls Tryz.prog 191 #[.pointer (some ⟨p,0,none⟩),.string key] w fun e w'=>e=.returned (.agg #[.int .u32 (Zq seed key.data.toList),.string key])/\Bl w w':=by
 obtain ⟨g0,g1,A1,va,vb,hm,hf,hc⟩:=h;obtain ⟨c0,c1,c2,c3,c4,f0,f1,f3,f4⟩:=Zy hm;have hpl:=hm.dict.lt;have HS:=fun w=>jY (Bp seed hsd key hk w);generalize Zq seed key.data.toList=sm at *;clear hm hf hc
 go_enter Tryz.func191,Tryz.ntmps191
 go_wp2_with fail;refine (HS _).out.mono ?_;rintro e w1 ⟨rfl,hb1⟩;have hB:=(Blk.new w 192 #[Value.int IntKind.u32 0,Value.string { data:=#[] }]).later hb1;have e0:=hB.cell 0;have e1:=hB.cell 1;have z0:=hB.free 0;have z1:=hB.free 1;have HH:=jY hB;have HL:=jY hb1;clear hB hb1;go_wp2;have g1:=(HH.out.set 0 (.int .u32 sm)).set 1 (.string key);have q0:=g1.cell 0;have q1:=g1.cell 1;refine bodyPost_ret (v:=.agg #[.int .u32 sm,.string key]) ?_ rfl ⟨rfl,?_⟩
 ·simp [results,Tryz.results191,go_sem,q0,q1]
 ·exact (((((Below.refl _ _).alloc (lAd _) _)).trans (HL.out.mono (by simp))).setCell (p:=⟨w.heap.size,0,none⟩) (lAd _) _).setCell (p:=⟨w.heap.size,1,none⟩) (lAd _) _
theorem Dv{w w1:World}(h:Below w.drew.heap.size w.drew w1):Bl w w1:=⟨h.os,h.tape,h.output,h.size,h.block⟩
theorem F0:(Tryz.prog.info? 301).map (fun i=>(i.zero,i.size,i.bytes))=some (some (.slice none 0 0),1,24):=by kernel_rfl
theorem x7z(n:Int):Zu n∈Vt:=by
 unfold Zu fit
 cases h:Vt.find? (fun (x:Nat)=>decide (n<=(x:Int))) with
 | none=>simp [Vt]
 | some x=>exact List.mem_of_find?_eq_some h
theorem Pq(n:Int):isS (Zu n:Int)=true:=(z4p _).2 ⟨_,x7z n,rfl⟩
def Dc.begin(D:Dc)(m:Nat):Dc:={ D with b:=List.replicate (Zu m) [] }
theorem Om(h:Rep tyI w p S seed D)(m:Nat)(hb:D.b=[]) :
 Calls Tryz.prog 216 #[.pointer (some ⟨p,0,none⟩),.int .i64 m] w fun e w'=>e=.returned (.tuple #[])/\Went tyI S w p seed (D.begin m) w':=by
 obtain ⟨g0,g1,A1,va,vb,hm,hf,hc⟩:=h;obtain ⟨c0,c1,c2,c3,c4,f0,f1,f3,f4⟩:=Zy hm;have HS:=fun w=>jY (Jf m w);have hpl:=hm.dict.lt;have HM:=jY hm;have hs4:=Zp (Pq m);clear hm;obtain ⟨i0,hi0,hz0,hz1,hz2⟩:=info_parts F0;have hmk:=fun W=>run_make (P:=Tryz.prog) W 267 301 i0 _ Tryz.underlying267 hi0 hz0 .i64 .i64 (Zu m) (Zu m) (by omega) (Int.le_refl _) (by rw [hz2];omega) (by omega);rw [hz1] at hmk;simp only [Int.toNat_natCast,Nat.mul_one] at hmk;have HCP:∀ W,Bl w W->Hid (W.cell? ⟨p,1,none⟩=some (.slice A1 D.b.length D.b.length)/\W.frozen? ⟨p,1,none⟩=false):=fun W hW=>jY ⟨(HM.out.dict.later hW).cell 1,(HM.out.dict.later hW).free 1⟩
 have HEND:∀ w1,Bl w w1->Hid (Went tyI S w p seed (D.begin m) ((w1.alloc (Obj.cells (madeCells #[Value.slice none 0 0] (Zu m)) 301)).setCell ⟨p,1,none⟩ (Value.slice (some ⟨w1.heap.size,0,none⟩) (Zu m) (Zu m)))):=fun w1 hb1=>jY (by
  have hm1:=HM.out.later hb1;have hz1:=hb1.size
  have hvb:vb=[]:=by
   rcases HM.out.tb with ⟨_,h,_⟩|⟨h,_⟩
   ·exact h
   ·exact absurd hb h
  subst hvb;have hs:=hm1.sep;rw [List.append_nil] at hs;have hd:=((hm1.dict.alloc (Obj.cells (madeCells #[Value.slice none 0 0] (Zu m)) 301)).set 1 (Value.slice (some ⟨w1.heap.size,0,none⟩) (Zu m) (Zu m)))
  have hfr:Far S w ((w1.alloc (Obj.cells (madeCells #[Value.slice none 0 0] (Zu m)) 301)).setCell ⟨p,1,none⟩ (Value.slice (some ⟨w1.heap.size,0,none⟩) (Zu m) (Zu m))) :=
   ((Far.of_below hb1).then_below ((Below.refl _ _).alloc (lAd _) _)).set _ _ (.inl hf.p)
  have hnew:Blk ((w1.alloc (Obj.cells (madeCells #[Value.slice none 0 0] (Zu m)) 301)).setCell ⟨p,1,none⟩ (Value.slice (some ⟨w1.heap.size,0,none⟩) (Zu m) (Zu m))) w1.heap.size 301 (madeCells #[Value.slice none 0 0] (Zu m)) :=
   (Blk.new w1 301 _).setOther 1 _ (by omega)
  have hmc:madeCells #[Value.slice none 0 0] (Zu m)=(List.replicate (Zu m) (Value.slice none 0 0)).toArray:=by
   rw [<- toList_madeCells_one]
  refine Went.mk' (g0:=g0) (g1:=w1.heap.size) (A1:=some ⟨w1.heap.size,0,none⟩) (va:=va) (vb:=List.replicate (Zu m) (.slice none 0 0)) ⟨?_,?_,.inr ⟨?_,rfl,?_,⟨?_,?_,?_⟩⟩,?_⟩ hfr (.inl hf.p) (.inl hf.g0) (fun _=>.inr (by omega)) ?_
  ·simpa [Dc.begin] using hd
  ·refine (hm1.ta.later (W':=(w1.alloc (Obj.cells (madeCells #[Value.slice none 0 0] (Zu m)) 301))) ((Below.refl _ _).alloc (lAd _) _)).far (S:=fun k=>k=p) ((Far.refl _ _).set _ _ (.inl rfl)) ?_;rintro k (rfl|⟨v,hv,hk⟩) rfl
   ·exact absurd (hm1.ta.blk.ty hm1.dict) (by decide)
   ·obtain ⟨r,hr⟩:=hm1.ta.mem hv;obtain ⟨c,hc⟩:=hr.blk hk;exact absurd (hc.ty hm1.dict) (by decide)
  ·simp [Dc.begin];omega
  ·have:=hm1.ta.blk.lt;omega
  ·rw [<- hmc];exact hnew
  ·simp [Dc.begin]
  ·intro i v r hv hr;obtain ⟨hi,rfl⟩:=lAb.1 hv;obtain ⟨hi2,rfl⟩:=lAb.1 hr;simp only [List.getElem_replicate,Dc.begin];exact RowAt.nil _ _
  ·refine hs.join (Sep.none fun v hv=>?_) (fun v hv u hu k hk=>?_)
   ·rw [List.eq_of_mem_replicate hv];rfl
   ·rw [List.eq_of_mem_replicate hu];simp [Value.ownBlock]
  ·intro v hv k hk;rcases List.mem_append.1 hv with h|h
   ·exact .inl (hf.row v (List.mem_append_left _ h) k hk)
   ·rw [List.eq_of_mem_replicate h] at hk;simp [Value.ownBlock] at hk)
 generalize Zu m=s at *;clear hf hc hi0 hz0 hz1 hz2
 go_enter Tryz.func216,Tryz.ntmps216
 go_wp2
 go_region_law ((go_simp;go_at_call 179;refine (HS _).out.mono ?_;rintro e w1 ⟨rfl,hb1⟩;obtain ⟨q1,z1⟩:=(HCP _ ((Dv hb1).alloc hb1.size (Obj.cells (madeCells #[Value.slice none 0 0] s) 301))).out))
 all_goals go_wp2
 all_goals go_returns
 all_goals exact ⟨rfl,(HEND w1 (Dv hb1)).out⟩
end
end Go.Proofs.YtcklcmafohlflaaGreatDoor.Dc

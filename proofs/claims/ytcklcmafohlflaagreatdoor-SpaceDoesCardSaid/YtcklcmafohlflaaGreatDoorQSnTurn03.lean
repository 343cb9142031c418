/- Texts of one kind in one: SnTurn, SnRefTurn, DcIter, DcSize, DcSum, DcRefs. -/
import Derived.Test.YtcklcmafohlflaaGreatDoorQDcRange02
set_option maxRecDepth 200000
set_option maxHeartbeats 8000000
namespace Go.Proofs.YtcklcmafohlflaaGreatDoor.Dc.Dt
open Zc
open Go.RowKit Go.Shelf
attribute [local go_sem] Oper.semAt_some
def Iq(q m n:Nat):Nat:=((n / q) &&& m) ||| ((n &&& m)*q)
theorem Bg{a b:Nat}(ha:a<4294967296)(hb:b<4294967296):a ||| b<4294967296:=Nat.or_lt_two_pow (n:=32) ha hb
theorem Iy(a b:Nat)(ha:a<4294967296)(hb:b<4294967296):bits .and .u32 (a:Int) (b:Int)=((a &&& b:Nat):Int):=by
 have hx:a &&& b<4294967296:=Nat.lt_of_le_of_lt Nat.and_le_left ha;unfold bits;show IntKind.u32.wrap ((BitVec.ofInt 32 (a:Int) &&& BitVec.ofInt 32 (b:Int)).toNat:Int)=_;rw [BitVec.ofInt_natCast,BitVec.ofInt_natCast,BitVec.toNat_and,BitVec.toNat_ofNat,BitVec.toNat_ofNat,Nat.mod_eq_of_lt ha,Nat.mod_eq_of_lt hb,IntKind.wrap_u32];omega
theorem z1n(a b:Nat)(ha:a<4294967296)(hb:b<4294967296):bits .or .u32 (a:Int) (b:Int)=((a ||| b:Nat):Int):=by
 have hx:=Bg ha hb;unfold bits;show IntKind.u32.wrap ((BitVec.ofInt 32 (a:Int) ||| BitVec.ofInt 32 (b:Int)).toNat:Int)=_;rw [BitVec.ofInt_natCast,BitVec.ofInt_natCast,BitVec.toNat_or,BitVec.toNat_ofNat,BitVec.toNat_ofNat,Nat.mod_eq_of_lt ha,Nat.mod_eq_of_lt hb,IntKind.wrap_u32];omega
def x6z(i:Nat):Nat:=[1,2,4,8,16].getD i 0
def Y2:Nat->Nat->Nat
 | 0,n=>n
 | i+1,n=>Iq (2 ^ x6z i) (4294967295 / (2 ^ x6z i+1)) (Y2 i n)
def Y1(n:Nat):Nat:=Y2 5 n
theorem Uf(q m n:Nat)(hn:n<4294967296)(hm:m*q<4294967296):Iq q m n<4294967296 :=
 Bg (Nat.lt_of_le_of_lt Nat.and_le_left (Nat.lt_of_le_of_lt (Nat.div_le_self _ _) hn)) (Nat.lt_of_le_of_lt (Nat.mul_le_mul_right q Nat.and_le_right) hm)
theorem Jk(q m n:Nat)(hn:n<4294967296)(hm:m*q<4294967296)(hm1:m<4294967296) :
 bits .or .u32 (bits .and .u32 ((n:Int) / (q:Int)) (m:Int)) (bits .and .u32 (n:Int) (m:Int)*(q:Int) % 4294967296)=((Iq q m n:Nat):Int):=by
 have h0:n / q<4294967296:=Nat.lt_of_le_of_lt (Nat.div_le_self _ _) hn;have h1:(n / q &&& m)<4294967296:=Nat.lt_of_le_of_lt Nat.and_le_left h0;have h2:(n &&& m)<=m:=Nat.and_le_right;have h3:(n &&& m)*q<4294967296:=Nat.lt_of_le_of_lt (Nat.mul_le_mul_right q h2) hm;have e1:bits .and .u32 ((n:Int) / (q:Int)) (m:Int)=((n / q &&& m:Nat):Int):=Iy (n / q) m h0 hm1
 have e2:bits .and .u32 (n:Int) (m:Int)*(q:Int) % 4294967296=(((n &&& m)*q:Nat):Int):=by
  rw [Iy n m hn hm1,<- Int.natCast_mul];omega
 rw [e1,e2];exact z1n _ _ h1 h3
theorem Fs(n:Nat):Y2 (0+1) n=Iq 2 1431655765 (Y2 0 n):=by
 unfold Y2;rfl
theorem Ft(n:Nat):Y2 (1+1) n=Iq 4 858993459 (Y2 1 n):=by
 unfold Y2;rfl
theorem Fu(n:Nat):Y2 (2+1) n=Iq 16 252645135 (Y2 2 n):=by
 unfold Y2;rfl
theorem Fv(n:Nat):Y2 (3+1) n=Iq 256 16711935 (Y2 3 n):=by
 unfold Y2;rfl
theorem Fw(n:Nat):Y2 (4+1) n=Iq 65536 65535 (Y2 4 n):=by
 unfold Y2;rfl
theorem z9y(n:Nat)(hn:n<4294967296)(B:Nat)(w:World)(hB:Blk w B 3 #[.int .i64 1,.int .i64 2,.int .i64 4,.int .i64 8,.int .i64 16]) :
 Calls Tryz.prog 221 #[.int .u32 n,.slice (some ⟨B,0,none⟩) 5 5] w fun e w'=>e=.returned (.int .u32 (Y1 n))/\Bl w w':=by
 go_enter Tryz.func221,Tryz.ntmps221
 go_wp2
 go_loopw [0,10] (fun v j wr=>∃ (i:Nat),j=.int .i64 i/\i<=5/\v=.int .u32 (Y2 i n)/\Y2 i n<4294967296/\Bl w wr)
  (fun _ j _=>5-(intOf j).toNat)
 case atStart=>exact ⟨0,rfl,by omega,rfl,hn,Below.refl _ _⟩
 case round =>
  obtain ⟨i,rfl,hi,rfl,hlt,hb⟩:=hrel;have hB:=hB.later hb;have c0:=hB.cell 0;have c1:=hB.cell 1;have c2:=hB.cell 2;have c3:=hB.cell 3;have c4:=hB.cell 4;simp at c0 c1 c2 c3 c4;have hi6:i=0\/i=1\/i=2\/i=3\/i=4\/i=5:=by omega
  rcases hi6 with rfl|rfl|rfl|rfl|rfl|rfl
  ·have hs:=Fs n;have hl:=Uf 2 1431655765 _ hlt (by decide);have hv:bits .or .u32 (bits .and .u32 ((Y2 0 n:Nat) / 2:Int) 1431655765) (bits .and .u32 ((Y2 0 n:Nat):Int) 1431655765*2 % 4294967296)=_:=Jk 2 1431655765 (Y2 0 n) hlt (by decide) (by decide);rw [<- hs] at hl hv;have HV:=jY hv;clear hs hv;generalize Y2 0 n=v at *;go_wp2
   go_region
   go_wp2;exact ⟨⟨1,rfl,by omega,by rw [HV.out],hl,hb.drew⟩,by simp [intOf]⟩
  ·have hs:=Ft n;have hl:=Uf 4 858993459 _ hlt (by decide);have hv:bits .or .u32 (bits .and .u32 ((Y2 1 n:Nat) / 4:Int) 858993459) (bits .and .u32 ((Y2 1 n:Nat):Int) 858993459*4 % 4294967296)=_:=Jk 4 858993459 (Y2 1 n) hlt (by decide) (by decide);rw [<- hs] at hl hv;have HV:=jY hv;clear hs hv;generalize Y2 1 n=v at *;go_wp2
   go_region
   go_wp2;exact ⟨⟨2,rfl,by omega,by rw [HV.out],hl,hb.drew⟩,by simp [intOf]⟩
  ·have hs:=Fu n;have hl:=Uf 16 252645135 _ hlt (by decide);have hv:bits .or .u32 (bits .and .u32 ((Y2 2 n:Nat) / 16:Int) 252645135) (bits .and .u32 ((Y2 2 n:Nat):Int) 252645135*16 % 4294967296)=_:=Jk 16 252645135 (Y2 2 n) hlt (by decide) (by decide);rw [<- hs] at hl hv;have HV:=jY hv;clear hs hv;generalize Y2 2 n=v at *;go_wp2
   go_region
   go_wp2;exact ⟨⟨3,rfl,by omega,by rw [HV.out],hl,hb.drew⟩,by simp [intOf]⟩
  ·have hs:=Fv n;have hl:=Uf 256 16711935 _ hlt (by decide);have hv:bits .or .u32 (bits .and .u32 ((Y2 3 n:Nat) / 256:Int) 16711935) (bits .and .u32 ((Y2 3 n:Nat):Int) 16711935*256 % 4294967296)=_:=Jk 256 16711935 (Y2 3 n) hlt (by decide) (by decide);rw [<- hs] at hl hv;have HV:=jY hv;clear hs hv;generalize Y2 3 n=v at *;go_wp2
   go_region
   go_wp2;exact ⟨⟨4,rfl,by omega,by rw [HV.out],hl,hb.drew⟩,by simp [intOf]⟩
  ·have hs:=Fw n;have hl:=Uf 65536 65535 _ hlt (by decide);have hv:bits .or .u32 (bits .and .u32 ((Y2 4 n:Nat) / 65536:Int) 65535) (bits .and .u32 ((Y2 4 n:Nat):Int) 65535*65536 % 4294967296)=_:=Jk 65536 65535 (Y2 4 n) hlt (by decide) (by decide);rw [<- hs] at hl hv;have HV:=jY hv;clear hs hv;generalize Y2 4 n=v at *;go_wp2
   go_region
   go_wp2;exact ⟨⟨5,rfl,by omega,by rw [HV.out],hl,hb.drew⟩,by simp [intOf]⟩
  ·have hs:Y2 5 n=Y1 n:=rfl;rw [hs];go_wp2;go_ret;exact ⟨rfl,hb⟩
theorem x6m(n:Nat)(hn:n<4294967296)(w:World):Calls Tryz.prog 201 #[.int .u32 n] w fun e w'=>e=.returned (.int .u32 (Y1 n))/\Bl w w':=by
 go_enter Tryz.func201,Tryz.ntmps201
 go_wp2_with fail;refine (z9y n hn w.heap.size _ (Blk.new _ _ _)).mono ?_;rintro e w1 ⟨rfl,hb1⟩;go_wp2;go_ret;exact ⟨rfl,((Below.refl _ _).alloc (lAd _) _).trans (hb1.mono (by simp))⟩
end Go.Proofs.YtcklcmafohlflaaGreatDoor.Dc.Dt
namespace Go.Proofs.YtcklcmafohlflaaGreatDoor.Dc
open Zc
open Go.RowKit Go.Shelf
attribute [local go_sem] Oper.semAt_some
def Vt:List Nat:=[4,8,16,32,64,128,256,512,1024,2048,4096,8192,16384,32768,65536]
def x7u(_:Nat)(x:Nat):Array Value:=#[.int .i64 x]
def Kc(i:Nat):Nat:=Vt.getD i 131072
theorem Jg:∀ i:Fin 15,Vt[i.val]?=some (Kc i.val)/\Kc i.val<=65536/\4<=Kc i.val/\Kc (i.val+1)=2*Kc i.val:=by decide +kernel
theorem y9t(L:List Nat)(w:World):Cv itT Tryz.prog 203 #[] x7u Vt L w:=by
 intro l J Jx W hW hJ hJx hY hJ0;refine callsIn_of_wp Tryz.func203 rfl trivial ?_ rfl;simp only [Tryz.ntmps203,List.size_toArray,List.length_cons,List.length_nil,Nat.reduceAdd,Nat.reduceSub,Array.replicate_succ,Array.replicate_zero,List.push_toArray,List.append_toArray,List.nil_append,List.cons_append,List.append_nil];have HY:=jY hY;clear hY;gi_wp2
 gi_loopw [2] (fun s wr=>∃ (i:Nat),s=.int .i64 (Kc i)/\i<=15/\J i wr)
  (fun s _=>131072-(intOf s).toNat)
 case atStart=>exact ⟨0,rfl,by omega,hJ0⟩
 case round =>
  obtain ⟨i,rfl,hi,hJi⟩:=hrel
  by_cases hlt:i<15
  ·obtain ⟨hx,h1,h2,h3⟩:=Jg ⟨i,hlt⟩;simp only at hx h1 h2 h3;have HN:=jY h3;have H2:=jY h2;clear h3 h2;obtain ⟨fn,tmps,assign,body,hy,hR⟩:=HY.out i _ wr hx hJi;unfold x7u at hy;generalize hs:Kc i=s at *;have hs2:=jY hs;clear hs;have h1':(s:Int)<=65536:=by omega
   gi_wp2_with fail
   (try refine ⟨fun _=>by decide,?_⟩)
   refine hR.mono ?_;rintro e W3 (⟨rfl,hJ3,hk3⟩|⟨rfl,hJx3⟩)
   ·clear hR hy;gi_wp2;have e1:=hs2.out;have e2:=HN.out;have e3:=H2.out;refine ⟨⟨i+1,by rw [e2];congr 1;omega,hlt,hJ3⟩,?_⟩;simp only [intOf];omega
   ·gi_wp2
    go_end0
    exact ⟨⟨_,rfl⟩,.inr ⟨_,hJx3⟩⟩
  ·obtain rfl:i=15:=by omega
   have h15:Kc 15=131072:=by decide +kernel
   generalize Kc 15=s at *;have h1':¬ ((s:Int)<=65536):=by omega
   clear h15;gi_wp2;refine ⟨fun _ h=>(by cases h),?_⟩;gi_wp2
   go_end0
   exact ⟨⟨_,rfl⟩,.inl hJi⟩
def x7s(_:Nat)(b:UInt8):Array Value:=#[.int .u8 b.toNat]
theorem y6w(p:ByteArray)(hp:p.size<=281474976710656)(B:Nat)(L:List Nat)(w:World)(hL:B ∉ L)(h0:Blk w B 9 #[.string p]) :
 Cv itT Tryz.prog 204 #[.pointer (some ⟨B,0,none⟩)] x7s p.data.toList L w:=by
 intro l J Jx W hW hJ hJx hY hJ0;have k0:=h0.later hW;refine callsIn_of_wp Tryz.func204 rfl trivial ?_ rfl;simp only [Tryz.ntmps204,List.size_toArray,List.length_cons,List.length_nil,Nat.reduceAdd,Nat.reduceSub,Array.replicate_succ,Array.replicate_zero,List.push_toArray,List.append_toArray,List.nil_append,List.cons_append];have HY:=jY hY;clear hY;gi_wp2
 gi_loopw [3] (fun s wr=>∃ (i:Nat),s=.int .i64 i/\i<=p.size/\J i wr/\Blk wr B 9 #[.string p])
  (fun s _=>p.size-(intOf s).toNat)
 case atStart=>exact ⟨0,rfl,by omega,hJ0,k0⟩
 case round =>
  clear k0;obtain ⟨i,rfl,hi,hJi,k0⟩:=hrel;obtain ⟨a0,b0⟩:=Z5 k0
  by_cases hlt:i<p.size
  ·have hx:p.data.toList[i]?=some p[i]:=by
    rw [lAa (by rw [Array.length_toList];exact hlt),Array.getElem_toList];rfl
   obtain ⟨fn,tmps,assign,body,hy,hR⟩:=HY.out i _ wr hx hJi;unfold x7s at hy
   gi_wp2_with fail
   (try refine ⟨fun _=>by decide,?_⟩)
   refine hR.mono ?_;rintro e W3 (⟨rfl,hJ3,hk3⟩|⟨rfl,hJx3⟩)
   ·have k13:=k0.keep hk3 hL;clear hR hy;gi_wp2;refine ⟨⟨i+1,by go_num,hlt,hJ3,k13⟩,?_⟩;simp only [intOf];omega
   ·gi_wp2
    go_end0
    exact ⟨⟨_,rfl⟩,.inr ⟨_,hJx3⟩⟩
  ·obtain rfl:i=p.size:=by omega
   gi_wp2;refine ⟨fun _ h=>(by cases h),?_⟩;gi_wp2
   go_end0
   exact ⟨⟨_,rfl⟩,.inl (by rw [Array.length_toList];exact hJi)⟩
def fit(n:Int)(l:List Nat):Nat:=(l.find? (fun (x:Nat)=>decide (n<=((x:Nat):Int)))).getD 65536
def Zu(n:Int):Nat:=fit n Vt
theorem z7h(n:Int)(i x:Nat)(hx:Vt[i]?=some x)(h:n<=x):fit n (Vt.drop i)=x:=by
 obtain ⟨hi,he⟩:=lAb.1 hx;unfold fit;rw [List.drop_eq_getElem_cons hi,he,List.find?_cons_of_pos (by simpa using h)];rfl
theorem x2g(n:Int)(i x:Nat)(hx:Vt[i]?=some x)(h:¬ n<=x):fit n (Vt.drop i)=fit n (Vt.drop (i+1)):=by
 obtain ⟨hi,he⟩:=lAb.1 hx;unfold fit;rw [List.drop_eq_getElem_cons hi,he,List.find?_cons_of_neg (by simpa using h)]
theorem Jf(n:Int)(w:World):Calls Tryz.prog 179 #[.int .i64 n] w fun e w'=>e=.returned (.int .i64 (Zu n))/\Bl w w':=by
 refine (callsIn_wide (n:=6)).1 (callsIn_of_wp_marks Tryz.func179 rfl trivial ?_ rfl);refine wpIn_wide.2 ?_;simp only [Tryz.ntmps179,List.size_toArray,List.length_cons,List.length_nil,Nat.reduceAdd,Nat.reduceSub,Array.replicate_succ,Array.replicate_zero,List.push_toArray,List.append_toArray,List.nil_append,List.cons_append];go_wp2;refine wp_scope_straight ?_;go_wp2;refine wp_label ?_;go_wp2;have k1:=(Blk.new w 3 #[Value.int IntKind.i64 n]).alloc (Obj.cells #[Value.int IntKind.i64 65536] 3);have k2:=Blk.new (w.alloc (Obj.cells #[Value.int IntKind.i64 n] 3)) 3 #[Value.int IntKind.i64 65536];rw [World.size_alloc] at k2;have hB:=((Below.refl w.heap.size w).alloc (lAd _) (Obj.cells #[Value.int IntKind.i64 n] 3)).alloc (by simp) (Obj.cells #[Value.int IntKind.i64 65536] 3);have hsz:((w.alloc (Obj.cells #[Value.int IntKind.i64 n] 3)).alloc (Obj.cells #[Value.int IntKind.i64 65536] 3)).heap.size=w.heap.size+2:=by simp
 generalize ((w.alloc (Obj.cells #[Value.int IntKind.i64 n] 3)).alloc (Obj.cells #[Value.int IntKind.i64 65536] 3))=w1 at *
 refine (wpIn_wide (n:=6)).1 (Ui (gf:=203) (lb:=#[]) (encs:=x7u) (xs:=Vt) (L:=[w.heap.size+1]) rfl (enters_of Tryz.func203 (by kernel_rfl) rfl) (y9t _ _) (fun _ _=>rfl)
  (fun i W=>Bl w W/\Blk W w.heap.size 3 #[.int .i64 n]/\Blk W (w.heap.size+1) 3 #[Value.int IntKind.i64 65536]/\Zu n=fit n (Vt.drop i))
  (fun c _ W=>match c with
    | .exit id=>id=0/\Bl w W/\Blk W (w.heap.size+1) 3 #[.int .i64 (Zu n)]
    | _=>False)
  ?hI ?hIx ?h0 (fun i x a' W=>a'={ tmps:=#[Value.int IntKind.i64 n,Value.pointer (some { block:=w.heap.size,off:=0 }),Value.int IntKind.i64 0,
   Value.pointer (some { block:=w.heap.size+1,off:=0 }),Value.int IntKind.i64 x,Value.int IntKind.i64 x,undef,undef,undef,undef,undef],defers:=[] })
  (fun _ _ _=>Z4 _ _) ?assign ?body ?done ?stop)
 case hI=>exact (Ze _ w (by omega)).and ((Zh _ _ _ _).and ((Zh _ _ _ _).and (Z4 _ _)))
 case hIx =>
  intro c
  cases c with
  | exit id=>exact (Z4 _ _).and ((Ze _ w (by omega)).and (Zh _ _ _ _))
  | _=>exact Z4 _ _
 case h0=>exact ⟨hB,k1,k2,rfl⟩
 case assign =>
  rintro l i x W K hx' ⟨hb,q1,q2,hgd⟩ hK;unfold x7u;gi_wp2;exact hK _ _ (KeepsFrom.refl _ _) (KeepC.refl _ _) ⟨hb,q1,q2,hgd⟩ rfl
 case body =>
  rintro l i x a' W hx' ⟨hb,q1,q2,hgd⟩ rfl;obtain ⟨c1,c2⟩:=Z5 q1;obtain ⟨d1,d2⟩:=Z5 q2;have Q2:=jY q2;have HG:=jY hgd;clear hgd q2 k1 k2
  by_cases hik:n<=(x:Int)
  ·have hs:Zu n=x:=HG.out.trans (z7h n i x hx' hik);have HS:=jY hs;clear hs;gi_wp2;refine ⟨(KeepsOthers.setCell _ _ _).from _,rfl,hb.setCell (p:=⟨w.heap.size+1,0,none⟩) (Nat.le_succ _) _,?_⟩;rw [HS.out];exact Q2.out.set 0 _
  ·gi_wp2;refine ⟨KeepsFrom.refl _ _,KeepC.refl _ _,hb,q1,Q2.out,HG.out.trans (x2g n i x hx' (by omega))⟩
 case done =>
  rintro D W hD ⟨hb,q1,q2,hgd⟩ hK;obtain ⟨d1,d2⟩:=Z5 q2;have hs:Zu n=65536:=hgd;have HS:=jY hs;have HK:=jY hK;clear hK q1 q2 hgd hs k1 k2;simp only [Exit.inBlock,Exit.then];go_wp2;exact Y5 (v:=.int .i64 65536) rfl HK.out (by simp [results,Tryz.results179,go_sem]) ⟨by rw [HS.out];rfl,Zg hb (by omega) _⟩
 case stop =>
  rintro D c j W hD hI hK
  cases c with
  | exit id =>
    obtain ⟨rfl,hb,q2⟩:=hI;obtain ⟨d1,d2⟩:=Z5 q2;have HK:=jY hK;clear hK q2 k1 k2;refine wpIn_wide.2 ?_;go_wp2;exact Y5 rfl HK.out (by simp [results,Tryz.results179,go_sem]) ⟨rfl,Zg hb (by omega) _⟩
  | _=>exact hI.elim
def isS(n:Int):Bool:=decide ((Zu n:Int)=n)
theorem G7(n:Int)(w:World):Calls Tryz.prog 180 #[.int .i64 n] w fun e w'=>e=.returned (.bool (isS n))/\Bl w w':=by
 unfold isS
 go_enter Tryz.func180,Tryz.ntmps180
 go_wp2_with fail;refine (Jf n _).mono ?_;rintro e w1 ⟨rfl,hb1⟩;go_wp2;go_ret;exact ⟨rfl,hb1⟩
def Ip(sum:Nat)(n:Int):Value:=if isS n then .tuple #[.int .i64 ((sum:Int) % n),.int .i64 0] else .tuple #[.int .i64 0,.int .i64 2]
theorem Zp{n:Int}(h:isS n=true):4<=n/\n<=65536:=by
 have h1:∀ l:List Nat,(∀ x∈l,4<=x/\x<=65536)->4<=fit n l/\fit n l<=65536:=fun l hl=>by
  unfold fit
  cases h:l.find? (fun (x:Nat)=>decide (n<=(x:Int))) with
  | none=>simp
  | some x=>exact hl x (List.mem_of_find?_eq_some h)
 have h2:=h1 Vt (by decide);unfold isS Zu at h
 have:=of_decide_eq_true h
 omega
theorem O1(sum:Nat)(hs:sum<4294967296)(n:Int)(w:World):Calls Tryz.prog 163 #[.int .u32 sum,.int .i64 n] w fun e w'=>e=.returned (Ip sum n)/\Bl w w':=by
 by_cases h:isS n=true
 ·have hp:=Zp h;unfold Ip;rw [if_pos h];have HI:=fun w=>G7 n w;rw [h] at HI;have HP:=fun w=>jY (HI w);clear HI;have g1:(0:Int)<=(sum:Int):=by omega
  have g2:(sum:Int)<=4294967295:=by omega
  have g3:(0:Int)<=(sum:Int) % n:=Int.emod_nonneg _ (by omega);have g4:(sum:Int) % n<n:=Int.emod_lt_of_pos _ (by omega);clear h
  go_enter Tryz.func163,Tryz.ntmps163
  go_wp2_with fail;refine wp_scope_straight ?_;go_wp2_with fail;refine (HP _).out.mono ?_;rintro e w1 ⟨rfl,hb1⟩;go_wp2;simp only [Exit.noGoto];go_ret2;exact ⟨rfl,hb1⟩
 ·have h':isS n=false:=by cases hh:isS n <;> simp_all
  unfold Ip;rw [if_neg h];have HI:=fun w=>G7 n w;rw [h'] at HI;have HP:=fun w=>jY (HI w);clear HI h h'
  go_enter Tryz.func163,Tryz.ntmps163
  go_wp2_with fail
  refine wp_scope_jumps 0 (fun a' w'=>Bl w w'/\a'={ tmps:=#[Value.int IntKind.u32 sum,Value.int IntKind.i64 n,undef,undef,Value.int IntKind.i64 0,
   Value.int IntKind.i64 0,Value.int IntKind.i64 n,Value.bool false,Value.bool true,undef,undef,undef,undef,undef],defers:=[] }) (fun _ _=>0) rfl ?_ ?_
  ·go_wp2_with fail;refine (HP _).out.mono ?_;rintro e w1 ⟨rfl,hb1⟩;go_wp2
   go_step3
   exact ⟨rfl,hb1,rfl⟩
  ·rintro a' w' ⟨hb,rfl⟩;go_wp2;simp only [Exit.jump];go_ret2;exact ⟨rfl,hb⟩
def C8(h b:Nat):Nat:=(h ^^^ b)*16777619 % 4294967296
def x2c(h:Nat):Nat:=h ^^^ h / 32768
def Cz(h:Nat):Nat:=x2c h*2246822519 % 4294967296
def x2b(h:Nat):Nat:=h ^^^ h / 8192
def v3l(h:Nat):Nat:=x2b (Cz h)
def Us(seed:Nat):Nat:=seed ^^^ 2166136261
def Ka(h:Nat)(l:List UInt8):Nat:=l.foldl (fun h b=>C8 h b.toNat) h
def Zq(seed:Nat)(l:List UInt8):Nat:=v3l (Ka (Us seed) l)
theorem Jr{a b:Nat}(ha:a<4294967296)(hb:b<4294967296):a ^^^ b<4294967296:=Nat.xor_lt_two_pow (n:=32) ha hb
theorem y9d(h b:Nat):C8 h b<4294967296:=Nat.mod_lt _ (by decide)
theorem z1m{s:Nat}(h:s<4294967296):Us s<4294967296:=Jr h (by decide)
theorem y5a(h:Nat):Cz h<4294967296:=Nat.mod_lt _ (by decide)
theorem x7v{h:Nat}(hh:h<4294967296):x2b h<4294967296:=Jr hh (by omega)
theorem x7w{h:Nat}(hh:h<4294967296):x2c h<4294967296:=Jr hh (by omega)
theorem Of(s:Nat)(l:List UInt8):Zq s l<4294967296:=by
 unfold Zq v3l;exact x7v (y5a _)
theorem y1i(h:Nat)(l:List UInt8)(i:Nat)(b:UInt8)(hb:l[i]?=some b):Ka h (l.take (i+1))=C8 (Ka h (l.take i)) b.toNat:=by
 obtain ⟨hi,he⟩:=lAb.1 hb;rw [lAf hi,he];unfold Ka;rw [List.foldl_append,List.foldl_cons,List.foldl_nil]
theorem y1h(h:Nat)(b:UInt8)(l:List UInt8):Ka h (b :: l)=Ka (C8 h b.toNat) l:=rfl
theorem y7i(h:Nat):Ka h []=h:=rfl
theorem z7j(l:List UInt8):∀ {h:Nat},h<4294967296->Ka h l<4294967296:=by
 induction l with
 | nil=>intro h hh;rw [y7i];exact hh
 | cons b l ih=>intro h _;rw [y1h];exact ih (y9d _ _)
theorem Mf(a b:Nat)(ha:a<4294967296)(hb:b<4294967296):bits .xor .u32 (a:Int) (b:Int)=((a ^^^ b:Nat):Int):=by
 have hx:=Jr ha hb;unfold bits;show IntKind.u32.wrap ((BitVec.ofInt 32 (a:Int) ^^^ BitVec.ofInt 32 (b:Int)).toNat:Int)=_;rw [BitVec.ofInt_natCast,BitVec.ofInt_natCast,BitVec.toNat_xor,BitVec.toNat_ofNat,BitVec.toNat_ofNat,Nat.mod_eq_of_lt ha,Nat.mod_eq_of_lt hb,IntKind.wrap_u32];omega
theorem z6s(p:ByteArray)(w:World):Calls Tryz.prog 181 #[.string p] w fun e w'=>e=.returned (.func (.func 204) #[] #[.pointer (some ⟨w.heap.size,0,none⟩)])/\w'=w.alloc (Obj.cells #[.string p] 9):=by
 go_enter Tryz.func181,Tryz.ntmps181
 go_wp2;go_ret;exact ⟨rfl,rfl⟩
theorem Bp(seed:Nat)(hs:seed<4294967296)(p:ByteArray)(hp:p.size<=281474976710656)(w:World) :
 Calls Tryz.prog 164 #[.int .u32 seed,.string p] w fun e w'=>e=.returned (.int .u32 (Zq seed p.data.toList))/\Bl w w':=by
 refine (callsIn_wide (n:=6)).1 (callsIn_of_wp_marks Tryz.func164 rfl trivial ?_ rfl);refine wpIn_wide.2 ?_;simp only [Tryz.ntmps164,List.size_toArray,List.length_cons,List.length_nil,Nat.reduceAdd,Nat.reduceSub,Array.replicate_succ,Array.replicate_zero,List.push_toArray,List.append_toArray,List.nil_append,List.cons_append];have hx:bits .xor .u32 (seed:Int) 2166136261=((Us seed:Nat):Int):=Mf seed 2166136261 hs (by decide);go_wp2_with fail;refine (z6s p _).mono ?_;rintro e w1 ⟨rfl,rfl⟩;go_wp2;have k1:=(Blk.new w 24 #[Value.int IntKind.u32 (Us seed)]).alloc (Obj.cells #[.string p] 9);have k2:=Blk.new (w.alloc (Obj.cells #[Value.int IntKind.u32 (Us seed)] 24)) 9 #[.string p];rw [World.size_alloc] at k2;have hB:=((Below.refl w.heap.size w).alloc (lAd _) (Obj.cells #[Value.int IntKind.u32 (Us seed)] 24)).alloc (by simp) (Obj.cells #[.string p] 9);have hsz:((w.alloc (Obj.cells #[Value.int IntKind.u32 (Us seed)] 24)).alloc (Obj.cells #[.string p] 9)).heap.size=w.heap.size+2:=by simp
 generalize ((w.alloc (Obj.cells #[Value.int IntKind.u32 (Us seed)] 24)).alloc (Obj.cells #[.string p] 9))=w1 at *
 refine (wpIn_wide (n:=6)).1 (Ui (gf:=204) (lb:=#[.pointer (some ⟨w.heap.size+1,0,none⟩)]) (encs:=x7s) (xs:=p.data.toList) (L:=[w.heap.size]) rfl (enters_of Tryz.func204 (by kernel_rfl) rfl) (y6w p hp (w.heap.size+1) _ _ (by simp) k2) (fun _ _=>rfl)
  (fun i W=>Bl w W/\Blk W w.heap.size 24 #[.int .u32 (Ka (Us seed) (p.data.toList.take i))])
  (fun _ _ _=>False)
  ?hI ?hIx ?h0 (fun i x a' W=>a'={ tmps:=#[Value.int IntKind.u32 ↑seed,Value.string p,undef,undef,Value.int IntKind.u32 0,
   Value.pointer (some { block:=w.heap.size,off:=0 }),Value.int .u8 x.toNat,Value.int IntKind.u32 ↑seed,
   Value.int IntKind.u32 (Us seed),Value.string p,
   Value.func (Fn.func 204) #[] #[Value.pointer (some { block:=w.heap.size+1,off:=0 })],Value.int .u8 x.toNat,undef,
   undef,undef,undef,undef,undef,undef,undef,undef,undef,undef,undef,undef,undef],defers:=[] })
  (fun _ _ _=>Z4 _ _) ?assign ?body ?done ?stop)
 case hI=>exact (Ze _ w (by omega)).and (Zh _ _ _ _)
 case hIx=>exact fun c=>Z4 _ _
 case h0=>exact ⟨hB,k1⟩
 case assign =>
  rintro l i x W K hx' ⟨hb,q1⟩ hK;unfold x7s;gi_wp2;exact hK _ _ (KeepsFrom.refl _ _) (KeepC.refl _ _) ⟨hb,q1⟩ rfl
 case body =>
  rintro l i x a' W hx' ⟨hb,q1⟩ rfl;have HN:=jY (y1i (Us seed) _ i x hx');have hlt:=z7j (p.data.toList.take i) (z1m hs);generalize Ka (Us seed) (p.data.toList.take i)=h at *;have hxb:x.toNat<256:=UInt8.toNat_lt _;generalize x.toNat=b at *;obtain ⟨c1,c2⟩:=Z5 q1;have Q1:=jY q1;have hx2:=Mf h b hlt (by omega);have hx3:=Jr hlt (show b<4294967296 by omega);have hr:C8 h b=(h ^^^ b)*16777619 % 4294967296:=rfl;generalize C8 h b=r at *;generalize h ^^^ b=y at *;have HR:=jY hr;clear k1 k2 q1 hr hx;gi_wp2;refine ⟨(KeepsOthers.setCell _ _ _).from _,KeepC.set _ _ _ _ (by simp),hb.setCell (p:=⟨w.heap.size,0,none⟩) (lAd _) _,?_⟩;rw [HN.out,HR.out];exact Q1.out.set 0 _
 case done =>
  rintro D W hD ⟨hb,q1⟩ hK;rw [List.take_length] at q1;have hlt:=z7j p.data.toList (z1m hs);have hr:Zq seed p.data.toList=x2b (Cz (Ka (Us seed) p.data.toList)):=rfl;generalize Ka (Us seed) p.data.toList=h at *;have hx2:bits .xor .u32 (h:Int) (h / 32768)=((x2c h:Nat):Int):=Mf h (h / 32768) hlt (by omega);have hxl:=x7w hlt;have ha:((x2c h:Nat):Int)*2246822519 % 4294967296=((Cz h:Nat):Int):=by unfold Cz;omega
  have hal:=y5a h;have hx3:bits .xor .u32 ((Cz h:Nat):Int) ((Cz h:Nat) / 8192)=((x2b (Cz h):Nat):Int):=Mf (Cz h) (Cz h / 8192) hal (by omega);generalize x2b (Cz h)=z at *;generalize Cz h=y at *;generalize x2c h=x at *;obtain ⟨d1,d2⟩:=Z5 q1;have HK:=jY hK;have HR:=jY hr;clear hK k1 k2 hr hx q1;simp only [Exit.inBlock,Exit.then];go_wp2;have hD':=(Below.heap_setCell W (⟨w.heap.size,0,none⟩:Addr) (.int .u32 y) D (show D≠w.heap.size by omega)).trans HK.out;exact Y5 (v:=.int .u32 z) rfl hD' (by simp [results,Tryz.results164,go_sem]) ⟨by rw [HR.out],Zg (hb.setCell (p:=⟨w.heap.size,0,none⟩) (lAd _) _) (by omega) _⟩
 case stop =>
  rintro D c j W hD hI hK;exact hI.elim
theorem x2f(n:Int):fit n (Vt.drop 14)=65536:=by
 unfold fit;show ((List.find? (fun (x:Nat)=>decide (n<=(x:Int))) [65536]).getD 65536)=65536
 cases h:List.find? (fun (x:Nat)=>decide (n<=(x:Int))) [65536] with
 | none=>rfl
 | some y=>have:=List.mem_of_find?_eq_some h;simp at this;subst this;rfl
theorem z4p(n:Int):isS n=true↔∃ x∈Vt,(x:Int)=n:=by
 constructor
 ·intro h;unfold isS Zu fit at h;have h2:=of_decide_eq_true h
  cases hh:Vt.find? (fun (x:Nat)=>decide (n<=(x:Int))) with
  | none=>rw [hh] at h2;exact ⟨65536,by decide,h2⟩
  | some x=>rw [hh] at h2;exact ⟨x,List.mem_of_find?_eq_some hh,h2⟩
 ·rintro ⟨x,hx,rfl⟩
  have:∀ x∈Vt,isS (x:Int)=true:=by decide +kernel
  exact this x hx
end Go.Proofs.YtcklcmafohlflaaGreatDoor.Dc

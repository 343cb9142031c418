/- Texts of one kind in one: SnTurn, SnRefTurn, DcIter, DcSize, DcSum, DcRefs. -/
import Derived.Test.YtmehfohpjigmmaaGreatDoorQDcRange02
set_option maxRecDepth 200000
set_option maxHeartbeats 8000000
namespace Go.Proofs.YtmehfohpjigmmaaGreatDoor.Dc.Dt
open Zc
open Go.RowKit Go.Shelf
attribute [local go_sem] Oper.semAt_some
end Go.Proofs.YtmehfohpjigmmaaGreatDoor.Dc.Dt
namespace Go.Proofs.YtmehfohpjigmmaaGreatDoor.Dc
open Zc
open Go.RowKit Go.Shelf
attribute [local go_sem] Oper.semAt_some
def Xb:List Nat:=[4,8,16,32,64,128,256,512,1024,2048,4096,8192,16384,32768,65536]
def y0h(_:Nat)(x:Nat):Array Value:=#[.int .i64 x]
def Q8(i:Nat):Nat:=Xb.getD i 131072
theorem Qr:∀ i:Fin 15,Xb[i.val]?=some (Q8 i.val)/\Q8 i.val<=65536/\4<=Q8 i.val/\Q8 (i.val+1)=2*Q8 i.val:=by decide +kernel
theorem z5b(L:List Nat)(w:World):Kn itT Tryz.prog 149 #[] y0h Xb L w:=by
 intro l J Jx W hW hJ hJx hY hJ0;refine callsIn_of_wp Tryz.func149 rfl trivial ?_ rfl;simp only [Tryz.ntmps149,List.size_toArray,List.length_cons,List.length_nil,Nat.reduceAdd,Nat.reduceSub,Array.replicate_succ,Array.replicate_zero,List.push_toArray,List.append_toArray,List.nil_append,List.cons_append,List.append_nil];have HY:=jY hY;clear hY;gi_wp2
 gi_loopw [2] (fun s wr=>∃ (i:Nat),s=.int .i64 (Q8 i)/\i<=15/\J i wr)
  (fun s _=>131072-(intOf s).toNat)
 case atStart=>exact ⟨0,rfl,by omega,hJ0⟩
 case round =>
  obtain ⟨i,rfl,hi,hJi⟩:=hrel
  by_cases hlt:i<15
  ·obtain ⟨hx,h1,h2,h3⟩:=Qr ⟨i,hlt⟩;simp only at hx h1 h2 h3;have HN:=jY h3;have H2:=jY h2;clear h3 h2;obtain ⟨fn,tmps,assign,body,hy,hR⟩:=HY.out i _ wr hx hJi;unfold y0h at hy;generalize hs:Q8 i=s at *;have hs2:=jY hs;clear hs;have h1':(s:Int)<=65536:=by omega
   gi_wp2_with fail
   (try refine ⟨fun _=>by decide,?_⟩)
   refine hR.mono ?_;rintro e W3 (⟨rfl,hJ3,hk3⟩|⟨rfl,hJx3⟩)
   ·clear hR hy;gi_wp2;have e1:=hs2.out;have e2:=HN.out;have e3:=H2.out;refine ⟨⟨i+1,by rw [e2];congr 1;omega,hlt,hJ3⟩,?_⟩;simp only [intOf];omega
   ·gi_wp2
    go_end0
    exact ⟨⟨_,rfl⟩,.inr ⟨_,hJx3⟩⟩
  ·obtain rfl:i=15:=by omega
   have h15:Q8 15=131072:=by decide +kernel
   generalize Q8 15=s at *;have h1':¬ ((s:Int)<=65536):=by omega
   clear h15;gi_wp2;refine ⟨fun _ h=>(by cases h),?_⟩;gi_wp2
   go_end0
   exact ⟨⟨_,rfl⟩,.inl hJi⟩
def y0f(_:Nat)(b:UInt8):Array Value:=#[.int .u8 b.toNat]
theorem z3f(p:ByteArray)(hp:p.size<=281474976710656)(B:Nat)(L:List Nat)(w:World)(hL:B ∉ L)(h0:Blk w B 9 #[.string p]) :
 Kn itT Tryz.prog 150 #[.pointer (some ⟨B,0,none⟩)] y0f p.data.toList L w:=by
 intro l J Jx W hW hJ hJx hY hJ0;have k0:=h0.later hW;refine callsIn_of_wp Tryz.func150 rfl trivial ?_ rfl;simp only [Tryz.ntmps150,List.size_toArray,List.length_cons,List.length_nil,Nat.reduceAdd,Nat.reduceSub,Array.replicate_succ,Array.replicate_zero,List.push_toArray,List.append_toArray,List.nil_append,List.cons_append];have HY:=jY hY;clear hY;gi_wp2
 gi_loopw [3] (fun s wr=>∃ (i:Nat),s=.int .i64 i/\i<=p.size/\J i wr/\Blk wr B 9 #[.string p])
  (fun s _=>p.size-(intOf s).toNat)
 case atStart=>exact ⟨0,rfl,by omega,hJ0,k0⟩
 case round =>
  clear k0;obtain ⟨i,rfl,hi,hJi,k0⟩:=hrel;obtain ⟨a0,b0⟩:=Z4 k0
  by_cases hlt:i<p.size
  ·have hx:p.data.toList[i]?=some p[i]:=by
    rw [List.getElem?_eq_getElem (by rw [Array.length_toList];exact hlt),Array.getElem_toList];rfl
   obtain ⟨fn,tmps,assign,body,hy,hR⟩:=HY.out i _ wr hx hJi;unfold y0f at hy
   gi_wp2_with fail
   (try refine ⟨fun _=>by decide,?_⟩)
   refine hR.mono ?_;rintro e W3 (⟨rfl,hJ3,hk3⟩|⟨rfl,hJx3⟩)
   ·have k13:=k0.keep hk3 hL;clear hR hy;gi_wp2;refine ⟨⟨i+1,by go_num,hlt,hJ3,k13⟩,?_⟩;simp only [intOf];omega
   ·gi_wp2
    go_end0
    exact ⟨⟨_,rfl⟩,.inr ⟨_,hJx3⟩⟩
  ·obtain rfl:i=p.size:=by omega
   gi_wp2;refine ⟨fun _ h=>(by cases h),?_⟩;gi_wp2
   go_end0
   exact ⟨⟨_,rfl⟩,.inl (by rw [Array.length_toList];exact hJi)⟩
def fit(n:Int)(l:List Nat):Nat:=(l.find? (fun (x:Nat)=>decide (n<=((x:Nat):Int)))).getD 65536
def Zg(n:Int):Nat:=fit n Xb
theorem C5(n:Int)(i x:Nat)(hx:Xb[i]?=some x)(h:n<=x):fit n (Xb.drop i)=x:=by
 obtain ⟨hi,he⟩:=List.getElem?_eq_some_iff.1 hx;unfold fit;rw [List.drop_eq_getElem_cons hi,he,List.find?_cons_of_pos (by simpa using h)];rfl
theorem z6u(n:Int)(i x:Nat)(hx:Xb[i]?=some x)(h:¬ n<=x):fit n (Xb.drop i)=fit n (Xb.drop (i+1)):=by
 obtain ⟨hi,he⟩:=List.getElem?_eq_some_iff.1 hx;unfold fit;rw [List.drop_eq_getElem_cons hi,he,List.find?_cons_of_neg (by simpa using h)]
theorem Qq(n:Int)(w:World):Calls Tryz.prog 135 #[.int .i64 n] w fun e w'=>e=.returned (.int .i64 (Zg n))/\Bl w w':=by
 refine (callsIn_wide (n:=6)).1 (callsIn_of_wp_marks Tryz.func135 rfl trivial ?_ rfl);refine wpIn_wide.2 ?_;simp only [Tryz.ntmps135,List.size_toArray,List.length_cons,List.length_nil,Nat.reduceAdd,Nat.reduceSub,Array.replicate_succ,Array.replicate_zero,List.push_toArray,List.append_toArray,List.nil_append,List.cons_append];go_wp2;refine wp_scope_straight ?_;go_wp2;refine wp_label ?_;go_wp2;have k1:=(Blk.new w 3 #[Value.int IntKind.i64 n]).alloc (Obj.cells #[Value.int IntKind.i64 65536] 3);have k2:=Blk.new (w.alloc (Obj.cells #[Value.int IntKind.i64 n] 3)) 3 #[Value.int IntKind.i64 65536];rw [World.size_alloc] at k2;have hB:=((Below.refl w.heap.size w).alloc (Nat.le_refl _) (Obj.cells #[Value.int IntKind.i64 n] 3)).alloc (by simp) (Obj.cells #[Value.int IntKind.i64 65536] 3);have hsz:((w.alloc (Obj.cells #[Value.int IntKind.i64 n] 3)).alloc (Obj.cells #[Value.int IntKind.i64 65536] 3)).heap.size=w.heap.size+2:=by simp
 generalize ((w.alloc (Obj.cells #[Value.int IntKind.i64 n] 3)).alloc (Obj.cells #[Value.int IntKind.i64 65536] 3))=w1 at *
 refine (wpIn_wide (n:=6)).1 (Xi (gf:=149) (lb:=#[]) (encs:=y0h) (xs:=Xb) (L:=[w.heap.size+1]) rfl (enters_of Tryz.func149 (by kernel_rfl) rfl) (z5b _ _) (fun _ _=>rfl)
  (fun i W=>Bl w W/\Blk W w.heap.size 3 #[.int .i64 n]/\Blk W (w.heap.size+1) 3 #[Value.int IntKind.i64 65536]/\Zg n=fit n (Xb.drop i))
  (fun c _ W=>match c with
    | .exit id=>id=0/\Bl w W/\Blk W (w.heap.size+1) 3 #[.int .i64 (Zg n)]
    | _=>False)
  ?hI ?hIx ?h0 (fun i x a' W=>a'={ tmps:=#[Value.int IntKind.i64 n,Value.pointer (some { block:=w.heap.size,off:=0 }),Value.int IntKind.i64 0,
   Value.pointer (some { block:=w.heap.size+1,off:=0 }),Value.int IntKind.i64 x,Value.int IntKind.i64 x,undef,undef,undef,undef,undef],defers:=[] })
  (fun _ _ _=>Z0 _ _) ?assign ?body ?done ?stop)
 case hI=>exact (Z6 _ w (by omega)).and ((Zb _ _ _ _).and ((Zb _ _ _ _).and (Z0 _ _)))
 case hIx =>
  intro c
  cases c with
  | exit id=>exact (Z0 _ _).and ((Z6 _ w (by omega)).and (Zb _ _ _ _))
  | _=>exact Z0 _ _
 case h0=>exact ⟨hB,k1,k2,rfl⟩
 case assign =>
  rintro l i x W K hx' ⟨hb,q1,q2,hgd⟩ hK;unfold y0h;gi_wp2;exact hK _ _ (KeepsFrom.refl _ _) (KeepC.refl _ _) ⟨hb,q1,q2,hgd⟩ rfl
 case body =>
  rintro l i x a' W hx' ⟨hb,q1,q2,hgd⟩ rfl;obtain ⟨c1,c2⟩:=Z4 q1;obtain ⟨d1,d2⟩:=Z4 q2;have Q2:=jY q2;have HG:=jY hgd;clear hgd q2 k1 k2
  by_cases hik:n<=(x:Int)
  ·have hs:Zg n=x:=HG.out.trans (C5 n i x hx' hik);have HS:=jY hs;clear hs;gi_wp2;refine ⟨(KeepsOthers.setCell _ _ _).from _,rfl,hb.setCell (p:=⟨w.heap.size+1,0,none⟩) (Nat.le_succ _) _,?_⟩;rw [HS.out];exact Q2.out.set 0 _
  ·gi_wp2;refine ⟨KeepsFrom.refl _ _,KeepC.refl _ _,hb,q1,Q2.out,HG.out.trans (z6u n i x hx' (by omega))⟩
 case done =>
  rintro D W hD ⟨hb,q1,q2,hgd⟩ hK;obtain ⟨d1,d2⟩:=Z4 q2;have hs:Zg n=65536:=hgd;have HS:=jY hs;have HK:=jY hK;clear hK q1 q2 hgd hs k1 k2;simp only [Exit.inBlock,Exit.then];go_wp2;exact Zp (v:=.int .i64 65536) rfl HK.out (by simp [results,Tryz.results135,go_sem]) ⟨by rw [HS.out];rfl,Z9 hb (by omega) _⟩
 case stop =>
  rintro D c j W hD hI hK
  cases c with
  | exit id =>
    obtain ⟨rfl,hb,q2⟩:=hI;obtain ⟨d1,d2⟩:=Z4 q2;have HK:=jY hK;clear hK q2 k1 k2;refine wpIn_wide.2 ?_;go_wp2;exact Zp rfl HK.out (by simp [results,Tryz.results135,go_sem]) ⟨rfl,Z9 hb (by omega) _⟩
  | _=>exact hI.elim
def isS(n:Int):Bool:=decide ((Zg n:Int)=n)
theorem O0(n:Int)(w:World):Calls Tryz.prog 136 #[.int .i64 n] w fun e w'=>e=.returned (.bool (isS n))/\Bl w w':=by
 unfold isS
 go_enter Tryz.func136,Tryz.ntmps136
 go_wp2_with fail;refine (Qq n _).mono ?_;rintro e w1 ⟨rfl,hb1⟩;go_wp2;go_ret;exact ⟨rfl,hb1⟩
def Pp(sum:Nat)(n:Int):Value:=if isS n then .tuple #[.int .i64 ((sum:Int) % n),.int .i64 0] else .tuple #[.int .i64 0,.int .i64 2]
theorem Zm{n:Int}(h:isS n=true):4<=n/\n<=65536:=by
 have h1:∀ l:List Nat,(∀ x∈l,4<=x/\x<=65536)->4<=fit n l/\fit n l<=65536:=fun l hl=>by
  unfold fit
  cases h:l.find? (fun (x:Nat)=>decide (n<=(x:Int))) with
  | none=>simp
  | some x=>exact hl x (List.mem_of_find?_eq_some h)
 have h2:=h1 Xb (by decide);unfold isS Zg at h
 have:=of_decide_eq_true h
 omega
theorem Vs(sum:Nat)(hs:sum<4294967296)(n:Int)(w:World):Calls Tryz.prog 116 #[.int .u32 sum,.int .i64 n] w fun e w'=>e=.returned (Pp sum n)/\Bl w w':=by
 by_cases h:isS n=true
 ·have hp:=Zm h;unfold Pp;rw [if_pos h];have HI:=fun w=>O0 n w;rw [h] at HI;have HP:=fun w=>jY (HI w);clear HI;have g1:(0:Int)<=(sum:Int):=by omega
  have g2:(sum:Int)<=4294967295:=by omega
  have g3:(0:Int)<=(sum:Int) % n:=Int.emod_nonneg _ (by omega);have g4:(sum:Int) % n<n:=Int.emod_lt_of_pos _ (by omega);clear h
  go_enter Tryz.func116,Tryz.ntmps116
  go_wp2_with fail;refine wp_scope_straight ?_;go_wp2_with fail;refine (HP _).out.mono ?_;rintro e w1 ⟨rfl,hb1⟩;go_wp2;simp only [Exit.noGoto];go_ret2;exact ⟨rfl,hb1⟩
 ·have h':isS n=false:=by cases hh:isS n <;> simp_all
  unfold Pp;rw [if_neg h];have HI:=fun w=>O0 n w;rw [h'] at HI;have HP:=fun w=>jY (HI w);clear HI h h'
  go_enter Tryz.func116,Tryz.ntmps116
  go_wp2_with fail
  refine wp_scope_jumps 0 (fun a' w'=>Bl w w'/\a'={ tmps:=#[Value.int IntKind.u32 sum,Value.int IntKind.i64 n,undef,undef,Value.int IntKind.i64 0,
   Value.int IntKind.i64 0,Value.int IntKind.i64 n,Value.bool false,Value.bool true,undef,undef,undef,undef,undef],defers:=[] }) (fun _ _=>0) rfl ?_ ?_
  ·go_wp2_with fail;refine (HP _).out.mono ?_;rintro e w1 ⟨rfl,hb1⟩;go_wp2
   go_step3
   exact ⟨rfl,hb1,rfl⟩
  ·rintro a' w' ⟨hb,rfl⟩;go_wp2;simp only [Exit.jump];go_ret2;exact ⟨rfl,hb⟩
def Mw(h b:Nat):Nat:=(h ^^^ b)*16777619 % 4294967296
def z6r(h:Nat):Nat:=h ^^^ h / 32768
def Kp(h:Nat):Nat:=z6r h*2246822519 % 4294967296
def z6q(h:Nat):Nat:=h ^^^ h / 8192
def y4l(h:Nat):Nat:=z6q (Kp h)
def Xn(seed:Nat):Nat:=seed ^^^ 2166136261
def Q7(h:Nat)(l:List UInt8):Nat:=l.foldl (fun h b=>Mw h b.toNat) h
def Zi(seed:Nat)(l:List UInt8):Nat:=y4l (Q7 (Xn seed) l)
theorem Qw{a b:Nat}(ha:a<4294967296)(hb:b<4294967296):a ^^^ b<4294967296:=Nat.xor_lt_two_pow (n:=32) ha hb
theorem z4n(h b:Nat):Mw h b<4294967296:=Nat.mod_lt _ (by decide)
theorem Iu{s:Nat}(h:s<4294967296):Xn s<4294967296:=Qw h (by decide)
theorem z2e(h:Nat):Kp h<4294967296:=Nat.mod_lt _ (by decide)
theorem y0i{h:Nat}(hh:h<4294967296):z6q h<4294967296:=Qw hh (by omega)
theorem y0j{h:Nat}(hh:h<4294967296):z6r h<4294967296:=Qw hh (by omega)
theorem Mc(s:Nat)(l:List UInt8):Zi s l<4294967296:=by
 unfold Zi y4l;exact y0i (z2e _)
theorem Am(h:Nat)(l:List UInt8)(i:Nat)(b:UInt8)(hb:l[i]?=some b):Q7 h (l.take (i+1))=Mw (Q7 h (l.take i)) b.toNat:=by
 obtain ⟨hi,he⟩:=List.getElem?_eq_some_iff.1 hb;rw [List.take_succ_eq_append_getElem hi,he];unfold Q7;rw [List.foldl_append,List.foldl_cons,List.foldl_nil]
theorem Al(h:Nat)(b:UInt8)(l:List UInt8):Q7 h (b :: l)=Q7 (Mw h b.toNat) l:=rfl
theorem z3o(h:Nat):Q7 h []=h:=rfl
theorem C7(l:List UInt8):∀ {h:Nat},h<4294967296->Q7 h l<4294967296:=by
 induction l with
 | nil=>intro h hh;rw [z3o];exact hh
 | cons b l ih=>intro h _;rw [Al];exact ih (z4n _ _)
theorem Uj(a b:Nat)(ha:a<4294967296)(hb:b<4294967296):bits .xor .u32 (a:Int) (b:Int)=((a ^^^ b:Nat):Int):=by
 have hx:=Qw ha hb;unfold bits;show IntKind.u32.wrap ((BitVec.ofInt 32 (a:Int) ^^^ BitVec.ofInt 32 (b:Int)).toNat:Int)=_;rw [BitVec.ofInt_natCast,BitVec.ofInt_natCast,BitVec.toNat_xor,BitVec.toNat_ofNat,BitVec.toNat_ofNat,Nat.mod_eq_of_lt ha,Nat.mod_eq_of_lt hb,IntKind.wrap_u32];omega
theorem Du(p:ByteArray)(w:World):Calls Tryz.prog 137 #[.string p] w fun e w'=>e=.returned (.func (.func 150) #[] #[.pointer (some ⟨w.heap.size,0,none⟩)])/\w'=w.alloc (Obj.cells #[.string p] 9):=by
 go_enter Tryz.func137,Tryz.ntmps137
 go_wp2;go_ret;exact ⟨rfl,rfl⟩
theorem J5(seed:Nat)(hs:seed<4294967296)(p:ByteArray)(hp:p.size<=281474976710656)(w:World) :
 Calls Tryz.prog 117 #[.int .u32 seed,.string p] w fun e w'=>e=.returned (.int .u32 (Zi seed p.data.toList))/\Bl w w':=by
 refine (callsIn_wide (n:=6)).1 (callsIn_of_wp_marks Tryz.func117 rfl trivial ?_ rfl);refine wpIn_wide.2 ?_;simp only [Tryz.ntmps117,List.size_toArray,List.length_cons,List.length_nil,Nat.reduceAdd,Nat.reduceSub,Array.replicate_succ,Array.replicate_zero,List.push_toArray,List.append_toArray,List.nil_append,List.cons_append];have hx:bits .xor .u32 (seed:Int) 2166136261=((Xn seed:Nat):Int):=Uj seed 2166136261 hs (by decide);go_wp2_with fail;refine (Du p _).mono ?_;rintro e w1 ⟨rfl,rfl⟩;go_wp2;have k1:=(Blk.new w 24 #[Value.int IntKind.u32 (Xn seed)]).alloc (Obj.cells #[.string p] 9);have k2:=Blk.new (w.alloc (Obj.cells #[Value.int IntKind.u32 (Xn seed)] 24)) 9 #[.string p];rw [World.size_alloc] at k2;have hB:=((Below.refl w.heap.size w).alloc (Nat.le_refl _) (Obj.cells #[Value.int IntKind.u32 (Xn seed)] 24)).alloc (by simp) (Obj.cells #[.string p] 9);have hsz:((w.alloc (Obj.cells #[Value.int IntKind.u32 (Xn seed)] 24)).alloc (Obj.cells #[.string p] 9)).heap.size=w.heap.size+2:=by simp
 generalize ((w.alloc (Obj.cells #[Value.int IntKind.u32 (Xn seed)] 24)).alloc (Obj.cells #[.string p] 9))=w1 at *
 refine (wpIn_wide (n:=6)).1 (Xi (gf:=150) (lb:=#[.pointer (some ⟨w.heap.size+1,0,none⟩)]) (encs:=y0f) (xs:=p.data.toList) (L:=[w.heap.size]) rfl (enters_of Tryz.func150 (by kernel_rfl) rfl) (z3f p hp (w.heap.size+1) _ _ (by simp) k2) (fun _ _=>rfl)
  (fun i W=>Bl w W/\Blk W w.heap.size 24 #[.int .u32 (Q7 (Xn seed) (p.data.toList.take i))])
  (fun _ _ _=>False)
  ?hI ?hIx ?h0 (fun i x a' W=>a'={ tmps:=#[Value.int IntKind.u32 ↑seed,Value.string p,undef,undef,Value.int IntKind.u32 0,
   Value.pointer (some { block:=w.heap.size,off:=0 }),Value.int .u8 x.toNat,Value.int IntKind.u32 ↑seed,
   Value.int IntKind.u32 (Xn seed),Value.string p,
   Value.func (Fn.func 150) #[] #[Value.pointer (some { block:=w.heap.size+1,off:=0 })],Value.int .u8 x.toNat,undef,
   undef,undef,undef,undef,undef,undef,undef,undef,undef,undef,undef,undef,undef],defers:=[] })
  (fun _ _ _=>Z0 _ _) ?assign ?body ?done ?stop)
 case hI=>exact (Z6 _ w (by omega)).and (Zb _ _ _ _)
 case hIx=>exact fun c=>Z0 _ _
 case h0=>exact ⟨hB,k1⟩
 case assign =>
  rintro l i x W K hx' ⟨hb,q1⟩ hK;unfold y0f;gi_wp2;exact hK _ _ (KeepsFrom.refl _ _) (KeepC.refl _ _) ⟨hb,q1⟩ rfl
 case body =>
  rintro l i x a' W hx' ⟨hb,q1⟩ rfl;have HN:=jY (Am (Xn seed) _ i x hx');have hlt:=C7 (p.data.toList.take i) (Iu hs);generalize Q7 (Xn seed) (p.data.toList.take i)=h at *;have hxb:x.toNat<256:=UInt8.toNat_lt _;generalize x.toNat=b at *;obtain ⟨c1,c2⟩:=Z4 q1;have Q1:=jY q1;have hx2:=Uj h b hlt (by omega);have hx3:=Qw hlt (show b<4294967296 by omega);have hr:Mw h b=(h ^^^ b)*16777619 % 4294967296:=rfl;generalize Mw h b=r at *;generalize h ^^^ b=y at *;have HR:=jY hr;clear k1 k2 q1 hr hx;gi_wp2;refine ⟨(KeepsOthers.setCell _ _ _).from _,KeepC.set _ _ _ _ (by simp),hb.setCell (p:=⟨w.heap.size,0,none⟩) (Nat.le_refl _) _,?_⟩;rw [HN.out,HR.out];exact Q1.out.set 0 _
 case done =>
  rintro D W hD ⟨hb,q1⟩ hK;rw [List.take_length] at q1;have hlt:=C7 p.data.toList (Iu hs);have hr:Zi seed p.data.toList=z6q (Kp (Q7 (Xn seed) p.data.toList)):=rfl;generalize Q7 (Xn seed) p.data.toList=h at *;have hx2:bits .xor .u32 (h:Int) (h / 32768)=((z6r h:Nat):Int):=Uj h (h / 32768) hlt (by omega);have hxl:=y0j hlt;have ha:((z6r h:Nat):Int)*2246822519 % 4294967296=((Kp h:Nat):Int):=by unfold Kp;omega
  have hal:=z2e h;have hx3:bits .xor .u32 ((Kp h:Nat):Int) ((Kp h:Nat) / 8192)=((z6q (Kp h):Nat):Int):=Uj (Kp h) (Kp h / 8192) hal (by omega);generalize z6q (Kp h)=z at *;generalize Kp h=y at *;generalize z6r h=x at *;obtain ⟨d1,d2⟩:=Z4 q1;have HK:=jY hK;have HR:=jY hr;clear hK k1 k2 hr hx q1;simp only [Exit.inBlock,Exit.then];go_wp2;have hD':=(Below.heap_setCell W (⟨w.heap.size,0,none⟩:Addr) (.int .u32 y) D (show D≠w.heap.size by omega)).trans HK.out;exact Zp (v:=.int .u32 z) rfl hD' (by simp [results,Tryz.results117,go_sem]) ⟨by rw [HR.out],Z9 (hb.setCell (p:=⟨w.heap.size,0,none⟩) (Nat.le_refl _) _) (by omega) _⟩
 case stop =>
  rintro D c j W hD hI hK;exact hI.elim
theorem z6t(n:Int):fit n (Xb.drop 14)=65536:=by
 unfold fit;show ((List.find? (fun (x:Nat)=>decide (n<=(x:Int))) [65536]).getD 65536)=65536
 cases h:List.find? (fun (x:Nat)=>decide (n<=(x:Int))) [65536] with
 | none=>rfl
 | some y=>have:=List.mem_of_find?_eq_some h;simp at this;subst this;rfl
theorem z2l(n:Int):isS n=true↔∃ x∈Xb,(x:Int)=n:=by
 constructor
 ·intro h;unfold isS Zg fit at h;have h2:=of_decide_eq_true h
  cases hh:Xb.find? (fun (x:Nat)=>decide (n<=(x:Int))) with
  | none=>rw [hh] at h2;exact ⟨65536,by decide,h2⟩
  | some x=>rw [hh] at h2;exact ⟨x,List.mem_of_find?_eq_some hh,h2⟩
 ·rintro ⟨x,hx,rfl⟩
  have:∀ x∈Xb,isS (x:Int)=true:=by decide +kernel
  exact this x hx
end Go.Proofs.YtmehfohpjigmmaaGreatDoor.Dc

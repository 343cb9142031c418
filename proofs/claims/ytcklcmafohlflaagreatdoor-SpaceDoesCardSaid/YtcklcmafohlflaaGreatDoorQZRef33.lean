/- Texts of one kind in one: ZRef, ZRefOps, ZRefAdd, ZRefOne. -/
import Derived.Test.YtcklcmafohlflaaGreatDoorQSpKeysM32
set_option maxRecDepth 200000
set_option maxHeartbeats 8000000
namespace Go.Proofs.YtcklcmafohlflaaGreatDoor
open Zc (Ent Ext KeepC Ym Z9 Zg Xg Zx Zb Zv Yo Y5 Ze Zz Z4 Zd)
open Go.RowKit Go.Shelf Sk
attribute [local go_sem] Oper.semAt_some
theorem z0e{W:World}{n0:Nat}{a:Option Addr}{c:Nat}{E:List En}(h:Row W n0 (.slice a E.length c) E):Pk.Ents W a E:=fun i hi=>by
 obtain ⟨b,off,c',h1,h2,h3⟩:=Xo h (lAa hi)
 injection h1 with h1
 exact ⟨b,off,h1,h2,h3⟩
theorem z9a{n0:Nat}(a:Option Addr)(c:Nat)(E:List En)(hE:E.length<=100000)(m:ByteArray)(w:World)(hr:Row w n0 (.slice a E.length c) E) :
 Calls Tryz.prog 62 #[.slice a E.length c,.string m] w fun e w'=>e=.returned (.int .i64 (Pk.Xw E m))/\w'=w:=by
 have HR:=jY hr;clear hr
 go_enter Tryz.func62,Tryz.ntmps62
 go_wp2
 go_loopw [5] (fun i wr=>∃ (k:Nat),i=.int .i64 k/\k<=E.length/\wr=w/\∀ j x,j<k->E[j]?=some x->x.1≠m) (fun i _=>E.length-(intOf i).toNat)
 case atStart=>exact ⟨0,rfl,by omega,rfl,fun j x hj=>by omega⟩
 case round =>
  obtain ⟨k,rfl,hk,rfl,hno⟩:=hrel
  by_cases hlt:k<E.length
  ·have hx:E[k]?=some E[k]:=lAa hlt;generalize E[k]=x at *;obtain ⟨b,off,c',e1,g0,g1⟩:=Xo HR.out hx
   injection e1 with e1 _ e2
   subst e1;subst e2;have hk2:(k:Int)<E.length:=by omega
   by_cases he:x.1=m
   ·have hw:Pk.Xw E m=k:=by
     unfold Pk.Xw
     rw [List.findIdx?_eq_some_iff_getElem.2 ⟨hlt,by rw [(lAb.1 hx).2];simpa using he,fun j hj=>by
      have:=hno j E[j] hj (lAa (by omega))
      simpa using this⟩]
    have hbeq:(x.1.toList==m.toList)=true:=by rw [he];simp
    have HW:=jY hw;clear hno hx hw he;go_wp2_with fail;go_returns;exact ⟨by rw [HW.out];rfl,rfl⟩
   ·have hbeq:(x.1.toList==m.toList)=false:=by
     rw [Bool.eq_false_iff];intro h;exact he (V9 (by simpa using h))
    have HNO:=jY (show ∀ j y,j<k+1->E[j]?=some y->y.1≠m from fun j y hj hy=>by
     by_cases e:j=k
     ·subst e;rw [hx] at hy;cases hy;exact he
     ·exact hno j y (by omega) hy)
    clear hno hx he;go_wp2_with fail;exact ⟨⟨k+1,by go_num,hlt,trivial,HNO.out⟩,by simp [intOf];omega⟩
  ·obtain rfl:k=E.length:=by omega
   have hw:Pk.Xw E m=-1:=by
    unfold Pk.Xw
    rw [List.findIdx?_eq_none_iff.2 fun x hx=>by
     obtain ⟨j,hj⟩:=List.mem_iff_getElem?.1 hx
     simpa using hno j x (lAb.1 hj).1 hj]
   have HW:=jY hw;clear hno hw;go_wp2;go_returns;exact ⟨by rw [HW.out];rfl,rfl⟩
theorem z0b{n0:Nat}(a:Option Addr)(c:Nat)(E:List En)(hE:E.length<=1000)(hc:E.length<=c)(hs:O6 E)(hz:∀ x∈E,x.1.size<=281474976710656)(m:ByteArray)(hm:m.size<=281474976710656)(s:Int)(w:World)(hr:Row w n0 (.slice a E.length c) E) :
 Calls Tryz.prog 64 #[.slice a E.length c,.agg #[.string m,.int .i64 s]] w fun e w'=>∃ v,e=.returned v/\Kh w' w.heap.size v (Vy E m s)/\Bl w w':=by
 have hb0:=Z0 w (.cells #[.string m,.int .i64 s] 94);have HR:=jY (fun W (hb:Below (w.alloc (.cells #[.string m,.int .i64 s] 94)).heap.size (w.alloc (.cells #[.string m,.int .i64 s] 94)) W)=>(hr.later hb0).later hb);have kE:=Blk.new w 94 #[.string m,.int .i64 s];have HK:=jY (fun W (hb:Below (w.alloc (.cells #[.string m,.int .i64 s] 94)).heap.size (w.alloc (.cells #[.string m,.int .i64 s] 94)) W)=>kE.later hb);have hple:=Bh E m s;have HSP:=jY (M1 hs m s);have HZ:=jY hz;have HB0:=jY hb0;have HI:=fun W (hb:Below (w.alloc (.cells #[.string m,.int .i64 s] 94)).heap.size (w.alloc (.cells #[.string m,.int .i64 s] 94)) W)=>jY (Pk.z1e a c E hE hc (Vq E m s) hple (m,s) W (z0e (HR.out W hb)));have HPE:=jY (show E.take (Vq E m s)++[(m,s)]++E.drop (Vq E m s)=Vy E m s by unfold Vy;rw [List.append_assoc];rfl);clear hr hs hz hb0 kE;generalize Vq E m s=P at *
 go_enter Tryz.func64,Tryz.ntmps64
 go_wp2
 go_loopw [5] (fun i wr=>∃ (k:Nat),i=.int .i64 k/\k<=P/\Below (w.alloc (.cells #[.string m,.int .i64 s] 94)).heap.size (w.alloc (.cells #[.string m,.int .i64 s] 94)) wr) (fun i _=>P-(intOf i).toNat)
 case atStart=>exact ⟨0,rfl,by omega,Below.refl _ _⟩
 case round =>
  obtain ⟨k,rfl,hk,hbr⟩:=hrel;have kR:=HK.out wr hbr;have q1:=fun y:Ext wr=>y.cell (Za kR).1;have q2:=fun y:Ext wr=>y.cell (Za kR).2.1;have hne:=Ext.one wr
  by_cases hlt:k<E.length
  ·have hx:E[k]?=some E[k]:=lAa hlt;have hzx:=HZ.out _ (List.getElem_mem hlt);generalize E[k]=x at *;obtain ⟨b,off,c',e1,g0,g1⟩:=Xo (HR.out wr hbr) hx
   injection e1 with e1 _ e2
   subst e1;subst e2;have q3:=fun y:Ext wr=>y.cell g0;have q4:=fun y:Ext wr=>y.cell g1;have hk2:(k:Int)<E.length:=by omega
   have HL:=fun W=>jY (z8w x.1 m hzx hm x.2 s W);have hle:Sk.Yc x.1 x.2 m s=decide (k<P):=HSP.out k x hx;rw [hle] at HL;have HBR:=jY hbr;clear hx hzx hle hbr kR g0 g1;go_wp2_with fail
   by_cases hkp:k<P
   ·rw [decide_eq_true hkp] at HL;refine Zd (w1:=wr) (by kernel_rfl) (by kernel_rfl) (Below.refl _ _) ?_
    repeat go_big_quiet_step ((go_at_call 93;exact Ext.call _ (HL _).out))
    refine wpQuiet_nil ?_;rintro _ ⟨y,rfl⟩;have HY:=jY (HBR.out.trans (y.ok.mono HBR.out.size));clear q1 q2 q3 q4 hne HL;go_wp2_with fail;exact ⟨⟨k+1,by go_num,hkp,HY.out⟩,by simp [intOf];omega⟩
   ·obtain rfl:k=P:=by omega
    rw [decide_eq_false hkp] at HL;refine Zd (w1:=wr) (by kernel_rfl) (by kernel_rfl) (Below.refl _ _) ?_
    repeat go_big_quiet_step ((go_at_call 93;exact Ext.call _ (HL _).out))
    refine wpQuiet_nil ?_;rintro _ ⟨y,rfl⟩;have hy:=HBR.out.trans (y.ok.mono HBR.out.size);have HIY:=HI y.w hy;have HY:=jY hy;obtain ⟨e0,e1,_,_⟩:=Za (HK.out y.w hy);clear q1 q2 q3 q4 hne HL hy HI;go_wp2_with fail;refine HIY.out.mono ?_;rintro e w3 ⟨v,rfl,ho,hb3⟩
    have HO:=jY (show Kh w3 w.heap.size v (Vy E m s) from by
     have:=ho
     rw [HPE.out] at this
     exact J6 this (lAe HB0.out.size HY.out.size))
    have HB3:=jY ((HB0.out.trans (HY.out.mono HB0.out.size)).trans (hb3.mono (lAe HB0.out.size HY.out.size)));clear ho hb3 HIY;go_wp2_with fail;go_returns;exact ⟨_,rfl,HO.out,HB3.out⟩
  ·obtain rfl:k=P:=by omega
   have hk2:¬ (k:Int)<E.length:=by omega
   have HBR:=jY hbr;clear hbr kR;go_wp2_with fail;refine Zd (w1:=wr) (by kernel_rfl) (by kernel_rfl) (Below.refl _ _) ?_
   repeat go_big_quiet_step (fail)
   refine wpQuiet_nil ?_;rintro _ ⟨y,rfl⟩;have hy:=HBR.out.trans (y.ok.mono HBR.out.size);have HIY:=HI y.w hy;have HY:=jY hy;obtain ⟨e0,e1,_,_⟩:=Za (HK.out y.w hy);clear q1 q2 hne hy HI;go_wp2_with fail;refine HIY.out.mono ?_;rintro e w3 ⟨v,rfl,ho,hb3⟩
   have HO:=jY (show Kh w3 w.heap.size v (Vy E m s) from by
    have:=ho
    rw [HPE.out] at this
    exact J6 this (lAe HB0.out.size HY.out.size))
   have HB3:=jY ((HB0.out.trans (HY.out.mono HB0.out.size)).trans (hb3.mono (lAe HB0.out.size HY.out.size)));clear ho hb3 HIY;go_wp2_with fail;go_returns;exact ⟨_,rfl,HO.out,HB3.out⟩
structure RefC (W:World) (r:Nat) (E:List En) (le lm:Int) (isL:Bool):Prop where
 ex:∃ a c,Blk W r 58 #[.slice a E.length c,.int .i64 le,.int .i64 lm,.bool isL]/\E.length<=c/\Row W 0 (.slice a E.length c) E
theorem RefC.far{S:Nat->Prop}{W W':World}{r:Nat}{E:List En}{le lm:Int}{isL:Bool}(h:RefC W r E le lm isL)(hf:Far S W W')(hr:¬ S r)(h48:∀ k cur,Blk W k 94 cur->¬ S k):RefC W' r E le lm isL:=by
 obtain ⟨a,c,h1,h2,h3⟩:=h.ex;exact ⟨a,c,hf.blk h1 hr,h2,h3.far hf fun k cur _ hk=>h48 k cur hk⟩
theorem RefC.later{W W':World}{r:Nat}{E:List En}{le lm:Int}{isL:Bool}(h:RefC W r E le lm isL)(hb:Bl W W'):RefC W' r E le lm isL:=h.far (S:=fun _=>False) (Far.of_below hb) (fun h=>h) (fun _ _ _ h=>h)
theorem RefC.put{W w0:World}{r n0:Nat}{v x:Value}{E:List En}{le lm:Int}{isL:Bool}(hk:Blk W r 58 #[x,.int .i64 le,.int .i64 lm,.bool isL])(ho:Kh W n0 v E)(hf:Far (fun k=>k=r) w0 W) :
 RefC (W.setCell ⟨r,0,none⟩ v) r E le lm isL/\Far (fun k=>k=r) w0 (W.setCell ⟨r,0,none⟩ v):=by
 obtain ⟨a,c,rfl,hc⟩:=Up ho;refine ⟨⟨a,c,?_,hc,?_⟩,hf.set _ _ (.inl rfl)⟩
 ·have:=hk.set 0 (.slice a E.length c)
  simpa using this
 ·refine ((Mp ho).mono (Nat.zero_le _)).far (Gu (S:=fun k=>k=r) W r 0 _ rfl) fun k cur _ h e=>?_;subst e;exact absurd (h.ty hk) (by decide)
theorem z0p{E:List En}{m:ByteArray}(h:whE E m=none):Pk.Xw E m=-1:=by
 unfold Pk.Xw;rw [List.findIdx?_eq_none_iff.2 fun x hx=>by simpa using V7 h x hx]
theorem z0q{E:List En}(hd:Vk E){m:ByteArray}{i:Nat}(h:whE E m=some i):Pk.Xw E m=i/\i<E.length/\rmE E m=E.take i++E.drop (i+1):=by
 obtain ⟨s,hx⟩:=Uh h;obtain ⟨hi,he⟩:=lAb.1 hx;refine ⟨?_,hi,C7 hd hx⟩;unfold Pk.Xw
 rw [List.findIdx?_eq_some_iff_getElem.2 ⟨hi,by rw [he];simp,fun j hj=>by
  have hne:E[j].1≠m:=fun e=>by
   have:=v3e hd (lAa (show j<E.length by omega))
   rw [e,h] at this
   injection this with this
   omega
  simpa using hne⟩]
theorem y3j{w:World}{r:Nat}{E:List En}{le lm:Int}{isL:Bool}(h:RefC w r E le lm isL)(hd:Vk E)(hE:E.length<=1000)(m:ByteArray) :
 Calls Tryz.prog 32 #[.pointer (some ⟨r,0,none⟩),.string m] w fun e w'=>e=.returned (.bool (Pp E m))/\RefC w' r (rmE E m) le lm isL/\Far (fun k=>k=r) w w':=by
 obtain ⟨a,c,hk,hc,hr⟩:=h.ex;have HF:=jY (z9a a c E (by omega) m w hr);obtain ⟨⟨c0,c1,c2,c3⟩,f0⟩:=Zm hk;have HH:=jY h;have hhas:=O9 E m
 cases hw:whE E m with
 | none =>
   rw [z0p hw] at HF;rw [hw] at hhas;have HN:=jY (Ve (V7 hw));clear hk hr hw h
   go_enter Tryz.func32,Tryz.ntmps32
   go_wp2_with fail;refine HF.out.mono ?_;rintro e w1 ⟨rfl,rfl⟩;clear HF;go_wp2_with fail;go_returns;exact ⟨by rw [hhas];rfl,by rw [HN.out];exact HH.out,Far.refl _ _⟩
 | some i =>
   obtain ⟨e1,hi,e2⟩:=z0q hd hw;rw [e1] at HF;rw [hw] at hhas;have HD:=jY (Pk.Im a c E hE hc i hi w (z0e hr));rw [<- e2] at HD;have HK:=jY hk;clear hk hr hw h e1 e2
   go_enter Tryz.func32,Tryz.ntmps32
   go_wp2_with fail;refine HF.out.mono ?_;rintro e w1 ⟨rfl,rfl⟩;clear HF;go_wp2_with fail;refine HD.out.mono ?_;rintro e w2 ⟨v,rfl,ho,hb⟩;have k2:=HK.out.later hb;have HR2:=jY (RefC.put (x:=.slice a E.length c) (w0:=w1) k2 (show Kh w2 w1.heap.size v (rmE E m) from ho) (Far.of_below hb));obtain ⟨⟨d0,_,_,_⟩,g0⟩:=Zm k2;obtain ⟨a',c',rfl,_⟩:=Up (l:=rmE E m) ho;clear c0 c1 c2 c3 f0 ho hb k2 HD HK HH;go_wp2_with fail;go_returns;exact ⟨by rw [hhas];rfl,HR2.out.1,HR2.out.2⟩
theorem RefC.sorted{W:World}{r:Nat}{E:List En}{le lm:Int}{isL:Bool}(h:RefC W r E le lm isL)(hE:E.length<=1000)(hs:O6 E)(hz:∀ x∈E,x.1.size<=64)(m:ByteArray)(hm:m.size<=64)(s:Int) :
 ∃ a c,Blk W r 58 #[.slice a E.length c,.int .i64 le,.int .i64 lm,.bool isL]/\Calls Tryz.prog 64 #[.slice a E.length c,.agg #[.string m,.int .i64 s]] W fun e w'=>∃ v,e=.returned v/\Kh w' W.heap.size v (Vy E m s)/\Bl W w':=by
 obtain ⟨a,c,h1,h2,h3⟩:=h.ex;exact ⟨a,c,h1,z0b a c E hE h2 hs (fun x hx=>lAe (hz x hx) (by omega)) m (by omega) s W h3⟩
theorem RefC.flag{W w0:World}{r:Nat}{E:List En}{le lm:Int}{isL:Bool}(h:RefC W r E le lm isL)(hf:Far (fun k=>k=r) w0 W) :
 RefC (W.setCell ⟨r,3,none⟩ (.bool true)) r E le lm true/\Far (fun k=>k=r) w0 (W.setCell ⟨r,3,none⟩ (.bool true)):=by
 obtain ⟨a,c,hk,hc,hr⟩:=h.ex;refine ⟨⟨a,c,?_,hc,?_⟩,hf.set _ _ (.inl rfl)⟩
 ·have:=hk.set 3 (.bool true)
  simpa using this
 ·refine hr.far (Gu (S:=fun k=>k=r) W r 3 _ rfl) fun k cur _ g e=>?_;rw [e] at g;exact absurd (g.ty hk) (by decide)
theorem RefC.cells{W:World}{r:Nat}{E:List En}{le lm:Int}{isL:Bool}(h:RefC W r E le lm isL):∃ a c,Blk W r 58 #[.slice a E.length c,.int .i64 le,.int .i64 lm,.bool isL]:=by
 obtain ⟨a,c,hk,_⟩:=h.ex;exact ⟨a,c,hk⟩
theorem y3k(p:Value)(m:ByteArray)(s lv:Int)(h:64<m.size\/lv<1\/32<lv)(hm:m.size<=281474976710656)(w:World) :
 Calls Tryz.prog 25 #[p,.string m,.int .i64 s,.int .i64 lv] w fun e w'=>e=.returned (.tuple #[.bool false,.int .i64 2])/\w'=w:=by
 by_cases h1:64<m.size
 ·have hb:(64:Int)<m.size:=by omega
  clear h
  go_enter Tryz.func25,Tryz.ntmps25
  go_wp2_with fail;go_returns;exact ⟨rfl,rfl⟩
 ·have hb:¬ (64:Int)<m.size:=by omega
  by_cases h2:lv<1
  ·clear h
   go_enter Tryz.func25,Tryz.ntmps25
   go_wp2_with fail;go_returns;exact ⟨rfl,rfl⟩
  ·have h3:32<lv:=by omega
   clear h
   go_enter Tryz.func25,Tryz.ntmps25
   go_wp2_with fail;go_returns;exact ⟨rfl,rfl⟩
theorem y8w{w:World}{r:Nat}{E:List En}{le lm:Int}{isL:Bool}(h:RefC w r E le lm isL)(hs:O6 E)(hd:Vk E)(hz:∀ x∈E,x.1.size<=64)(h4:E.length<400)(m:ByteArray)(s lv:Int)(hm:m.size<=64)(hv1:1<=lv)(hv2:lv<=32) :
 Calls Tryz.prog 25 #[.pointer (some ⟨r,0,none⟩),.string m,.int .i64 s,.int .i64 lv] w fun e w'=>e=.returned (.tuple #[.bool (!Pp E m),.int .i64 0])/\RefC w' r (Vd E m s) le lm (isL || (decide (le<(Vd E m s).length) || decide (lm<m.size)))/\Far (fun k=>k=r) w w':=by
 have g1:¬ (64:Int)<m.size:=by omega
 have g2:¬ lv<1:=by omega
 have g3:¬ 32<lv:=by omega
 have g4:¬ (E.length:Int) >= 400:=by omega
 obtain ⟨a,c,hk,hc,hr⟩:=h.ex;have HF:=jY (z9a a c E (by omega) m w hr);obtain ⟨⟨c0,c1,c2,c3⟩,f0⟩:=Zm hk;obtain ⟨IL,hIL⟩:∃ b,(isL || (decide (le<((Vd E m s).length:Int)) || decide (lm<(m.size:Int))))=b:=⟨_,rfl⟩;obtain ⟨H,hH⟩:∃ b,Pp E m=b:=⟨_,rfl⟩;rw [hIL,hH];have hhas:=O9 E m;rw [hH] at hhas;have HIL:=jY hIL;clear hH hIL
 cases hw:whE E m with
 | none =>
   rw [z0p hw] at HF;rw [hw] at hhas;have HV:=jY (show (!H)=true by rw [hhas];rfl);clear hhas;have HN:=jY (Ve (V7 hw));have hso:=z0b a c E (by omega) hc hs (fun x hx=>lAe (hz x hx) (by omega)) m (by omega) s w hr;rw [show Vy E m s=Vd E m s by unfold Vd;rw [HN.out]] at hso;have HSO:=jY hso;have HK2:=jY hk;have HF2:=jY (Far.refl (fun k=>k=r) w);clear hk hr hw h hso hs hz
   go_enter Tryz.func25,Tryz.ntmps25
   go_wp2_with fail;refine HF.out.mono ?_;rintro e w1 ⟨rfl,rfl⟩;clear HF;go_wp2_with fail;refine HSO.out.mono ?_;rintro e w3 ⟨v,rfl,ho,hb⟩;have k3:=HK2.out.later hb;have hR3:=RefC.put (w0:=w1) k3 ho (HF2.out.then_below hb);obtain ⟨⟨e0,_,_,_⟩,q0⟩:=Zm k3;obtain ⟨a',c',rfl,_⟩:=Up (l:=Vd E m s) ho;have HR3:=jY hR3;clear ho hb k3 HSO HK2 HF2 hR3 c0 c1 c2 c3 f0;go_wp2_with fail;obtain ⟨a4,c4,k4⟩:=HR3.out.1.cells;generalize w3.setCell _ _=wr at *;obtain ⟨⟨x0,x1,x2,_⟩,_⟩:=Zm k4;have q1:=fun y:Ext wr=>y.cell x0;have q2:=fun y:Ext wr=>y.cell x1;have q3:=fun y:Ext wr=>y.cell x2;have hne:=Ext.one wr;have HR4:=jY HR3.out;clear HR3 k4 x0 x1 x2 e0 q0
   by_cases hA:le<((Vd E m s).length:Int)
   ·have HI:=jY (show IL=true by rw [<- HIL.out,decide_eq_true hA];simp);refine Zd (w1:=wr) (by kernel_rfl) (by kernel_rfl) (Below.refl _ _) ?_
    repeat go_big_quiet_step (fail)
    refine wpQuiet_nil ?_;rintro _ ⟨y,rfl⟩;have hr5:=HR4.out.1.later y.ok;have hf5:=HR4.out.2.then_below y.ok;obtain ⟨a5,c5,k5⟩:=hr5.cells;have y3:=(Zm k5).1.2.2.2;have z3:=k5.free 3;have HFL:=jY (hr5.flag hf5);clear q1 q2 q3 hne hr5 hf5 k5 HR4;go_wp2_with fail;go_returns;exact ⟨by rw [HV.out];first|rfl|simp,by rw [HI.out];exact HFL.out.1,HFL.out.2⟩
   ·by_cases hB:lm<(m.size:Int)
    ·have HI:=jY (show IL=true by rw [<- HIL.out,decide_eq_true hB];simp);refine Zd (w1:=wr) (by kernel_rfl) (by kernel_rfl) (Below.refl _ _) ?_
     repeat go_big_quiet_step (fail)
     refine wpQuiet_nil ?_;rintro _ ⟨y,rfl⟩;have hr5:=HR4.out.1.later y.ok;have hf5:=HR4.out.2.then_below y.ok;obtain ⟨a5,c5,k5⟩:=hr5.cells;have y3:=(Zm k5).1.2.2.2;have z3:=k5.free 3;have HFL:=jY (hr5.flag hf5);clear q1 q2 q3 hne hr5 hf5 k5 HR4;go_wp2_with fail;go_returns;exact ⟨by rw [HV.out];first|rfl|simp,by rw [HI.out];exact HFL.out.1,HFL.out.2⟩
    ·have HI:=jY (show IL=isL by rw [<- HIL.out,decide_eq_false hA,decide_eq_false hB];simp);refine Zd (w1:=wr) (by kernel_rfl) (by kernel_rfl) (Below.refl _ _) ?_
     repeat go_big_quiet_step (fail)
     refine wpQuiet_nil ?_;rintro _ ⟨y,rfl⟩;have hr5:=HR4.out.1.later y.ok;have hf5:=HR4.out.2.then_below y.ok;obtain ⟨a5,c5,k5⟩:=hr5.cells;have y3:=(Zm k5).1.2.2.2;have z3:=k5.free 3;have HFL:=jY (And.intro hr5 hf5);clear q1 q2 q3 hne hr5 hf5 k5 HR4;go_wp2_with fail;go_returns;exact ⟨by rw [HV.out];first|rfl|simp,by rw [HI.out];exact HFL.out.1,HFL.out.2⟩
 | some i =>
   obtain ⟨e1,hi,e2⟩:=z0q hd hw;rw [e1] at HF;rw [hw] at hhas;have HV:=jY (show (!H)=false by rw [hhas];rfl);clear hhas;have HD:=jY (Pk.Im a c E (by omega) hc i hi w (z0e hr));rw [<- e2] at HD;have HK:=jY hk;have HS:=jY (z6f hs m);have HZ:=jY (fun x (hx:x∈rmE E m)=>hz x (I3.1 hx).1);have HLE:=jY (show (rmE E m).length<=1000 from lAe (List.length_filter_le _ _) (by omega));clear hk hr hw h e1 e2 hs hz
   go_enter Tryz.func25,Tryz.ntmps25
   go_wp2_with fail;refine HF.out.mono ?_;rintro e w1 ⟨rfl,rfl⟩;clear HF;go_wp2_with fail;refine HD.out.mono ?_;rintro e w2 ⟨v,rfl,ho,hb⟩;have k2:=HK.out.later hb;have hR2:=RefC.put (x:=.slice a E.length c) (w0:=w1) k2 (show Kh w2 w1.heap.size v (rmE E m) from ho) (Far.of_below hb);obtain ⟨⟨e0,_,_,_⟩,q0⟩:=Zm k2;obtain ⟨a',c',rfl,_⟩:=Up (l:=rmE E m) ho;obtain ⟨a2,k3,hk2,hso⟩:=hR2.1.sorted HLE.out HS.out HZ.out m hm s;rw [show Vy (rmE E m) m s=Vd E m s from rfl] at hso;have HSO:=jY hso;have HK2:=jY hk2;obtain ⟨⟨d0,_,_,_⟩,g0⟩:=Zm hk2;have HF2:=jY hR2.2;clear c0 c1 c2 c3 f0 ho hb k2 HD HK hR2 hk2 hso HS HZ;go_wp2_with fail;refine HSO.out.mono ?_;rintro e w3 ⟨v,rfl,ho,hb⟩;have k3:=HK2.out.later hb;have hR3:=RefC.put (w0:=w1) k3 ho (HF2.out.then_below hb);obtain ⟨⟨e5,_,_,_⟩,q5⟩:=Zm k3;obtain ⟨a',c',rfl,_⟩:=Up (l:=Vd E m s) ho;have HR3:=jY hR3;clear ho hb k3 HSO HK2 HF2 hR3 d0 g0;go_wp2_with fail;obtain ⟨a4,c4,k4⟩:=HR3.out.1.cells;generalize w3.setCell _ _=wr at *;obtain ⟨⟨x0,x1,x2,_⟩,_⟩:=Zm k4;have q1:=fun y:Ext wr=>y.cell x0;have q2:=fun y:Ext wr=>y.cell x1;have q3:=fun y:Ext wr=>y.cell x2;have hne:=Ext.one wr;have HR4:=jY HR3.out;clear HR3 k4 x0 x1 x2 e5 q5
   by_cases hA:le<((Vd E m s).length:Int)
   ·have HI:=jY (show IL=true by rw [<- HIL.out,decide_eq_true hA];simp);refine Zd (w1:=wr) (by kernel_rfl) (by kernel_rfl) (Below.refl _ _) ?_
    repeat go_big_quiet_step (fail)
    refine wpQuiet_nil ?_;rintro _ ⟨y,rfl⟩;have hr5:=HR4.out.1.later y.ok;have hf5:=HR4.out.2.then_below y.ok;obtain ⟨a5,c5,k5⟩:=hr5.cells;have y3:=(Zm k5).1.2.2.2;have z3:=k5.free 3;have HFL:=jY (hr5.flag hf5);clear q1 q2 q3 hne hr5 hf5 k5 HR4;go_wp2_with fail;go_returns;exact ⟨by rw [HV.out];first|rfl|simp,by rw [HI.out];exact HFL.out.1,HFL.out.2⟩
   ·by_cases hB:lm<(m.size:Int)
    ·have HI:=jY (show IL=true by rw [<- HIL.out,decide_eq_true hB];simp);refine Zd (w1:=wr) (by kernel_rfl) (by kernel_rfl) (Below.refl _ _) ?_
     repeat go_big_quiet_step (fail)
     refine wpQuiet_nil ?_;rintro _ ⟨y,rfl⟩;have hr5:=HR4.out.1.later y.ok;have hf5:=HR4.out.2.then_below y.ok;obtain ⟨a5,c5,k5⟩:=hr5.cells;have y3:=(Zm k5).1.2.2.2;have z3:=k5.free 3;have HFL:=jY (hr5.flag hf5);clear q1 q2 q3 hne hr5 hf5 k5 HR4;go_wp2_with fail;go_returns;exact ⟨by rw [HV.out];first|rfl|simp,by rw [HI.out];exact HFL.out.1,HFL.out.2⟩
    ·have HI:=jY (show IL=isL by rw [<- HIL.out,decide_eq_false hA,decide_eq_false hB];simp);refine Zd (w1:=wr) (by kernel_rfl) (by kernel_rfl) (Below.refl _ _) ?_
     repeat go_big_quiet_step (fail)
     refine wpQuiet_nil ?_;rintro _ ⟨y,rfl⟩;have hr5:=HR4.out.1.later y.ok;have hf5:=HR4.out.2.then_below y.ok;obtain ⟨a5,c5,k5⟩:=hr5.cells;have y3:=(Zm k5).1.2.2.2;have z3:=k5.free 3;have HFL:=jY (And.intro hr5 hf5);clear q1 q2 q3 hne hr5 hf5 k5 HR4;go_wp2_with fail;go_returns;exact ⟨by rw [HV.out];first|rfl|simp,by rw [HI.out];exact HFL.out.1,HFL.out.2⟩
def FitE(isL:Bool)(le lm:Int)(E:List En):Prop:=isL=false->(E.length:Int)<=le/\∀ e∈E,(e.1.size:Int)<=lm
theorem y5d(isL:Bool){le lm:Int}(h:0<=le):FitE isL le lm []:=fun _=>⟨by simpa using h,fun e he=>by cases he⟩
theorem FitE.sub{isL:Bool}{le lm:Int}{E E1:List En}(h:FitE isL le lm E)(hl:E1.length<=E.length)(hm:∀ e∈E1,e∈E):FitE isL le lm E1:=fun hi=>⟨by have:=(h hi).1;omega,fun e he=>(h hi).2 e (hm e he)⟩
theorem y4w{isL:Bool}{le lm:Int}{E:List En}(h:FitE isL le lm E)(hd:Vk E){m:ByteArray}{s lv:Int}(hb:Cw m lv=false) :
 (isL || (decide (le<((Vd E m s).length:Int)) || decide (lm<(m.size:Int))))=Ma le lm isL E m lv:=by
 unfold Ma;rw [hb,Kj hd]
 cases isL with
 | true=>simp
 | false =>
   obtain ⟨h1,h2⟩:=h rfl
   cases hh:Pp E m with
   | true =>
     obtain ⟨s',hs'⟩:=Af.1 hh;have h3:=h2 _ hs';simp only [if_true,Bool.not_false,Bool.true_and,Bool.not_true,Bool.false_and,Bool.false_or];rw [decide_eq_false (by omega),decide_eq_false (by simp only at h3;omega)];rfl
   | false =>
     simp only [Bool.false_eq_true,if_false,Bool.not_false,Bool.true_and,Bool.false_or]
     congr 1
     apply decide_eq_decide.2
     push_cast
     omega
theorem y5c{isL:Bool}{le lm:Int}{E:List En}(h:FitE isL le lm E)(hd:Vk E)(m:ByteArray)(s lv:Int):FitE (Ma le lm isL E m lv) le lm (Mb E m s lv):=by
 unfold Mb
 cases hb:Cw m lv with
 | true =>
   unfold Ma;rw [hb]
   simpa using h
 | false =>
   rw [<- y4w (s:=s) h hd hb];simp only [Bool.false_eq_true,if_false];intro hi;simp only [Bool.or_eq_false_iff,decide_eq_false_iff_not] at hi;obtain ⟨h0,h1,h2⟩:=hi;refine ⟨by omega,fun e he=>?_⟩;rcases Al.1 he with rfl|⟨h3,_⟩
   ·simp only;omega
   ·exact (h h0).2 e h3
theorem y5y{w:World}{r:Nat}{E:List En}{le lm:Int}{isL:Bool}(h:RefC w r E le lm isL)(hf:FitE isL le lm E)(hs:O6 E)(hd:Vk E)(hz:∀ x∈E,x.1.size<=64)(h4:E.length<400)(m:ByteArray)(hm:m.size<=281474976710656)(s lv:Int) :
 Calls Tryz.prog 25 #[.pointer (some ⟨r,0,none⟩),.string m,.int .i64 s,.int .i64 lv] w fun e w'=>e=.returned (.tuple #[.bool (z3m E m lv),.int .i64 (z3n m lv)])/\RefC w' r (Mb E m s lv) le lm (Ma le lm isL E m lv)/\Far (fun k=>k=r) w w':=by
 by_cases hb:64<m.size\/lv<1\/32<lv
 ·have hb2:Cw m lv=true:=decide_eq_true hb;refine (y3k _ m s lv hb hm w).mono ?_;rintro e w' ⟨rfl,rfl⟩;unfold z3m z3n Mb Ma;rw [hb2];simp only [if_true,Bool.not_true,Bool.false_and,Bool.or_false];exact ⟨trivial,h,Far.refl _ _⟩
 ·have hb2:Cw m lv=false:=decide_eq_false hb;refine (y8w h hs hd hz h4 m s lv (by omega) (by omega) (by omega)).mono ?_;rintro e w' ⟨rfl,h1,h2⟩;rw [y4w hf hd hb2] at h1;unfold z3m z3n Mb;rw [hb2];exact ⟨rfl,h1,h2⟩
theorem y5z(en mn le lm:Int)(hle:min (max en 0) 200=le)(hlm:min (max mn 0) 64=lm)(w:World) :
 Calls Tryz.prog 58 #[.agg #[.int .i64 en,.int .i64 mn]] w fun e w'=>∃ r,e=.returned (.pointer (some ⟨r,0,none⟩))/\w.heap.size<=r/\RefC w' r [] le lm false/\Bl w w':=by
 have e1:max 0 (min 200 en)=le:=by omega
 have e2:max 0 (min 64 mn)=lm:=by omega
 have hb1:=Z0 w (.cells #[.int .i64 en,.int .i64 mn] 23);have k1:=Blk.new w 23 #[.int .i64 en,.int .i64 mn];obtain ⟨c0,c1,_,_⟩:=Za k1;have k2:=Blk.new (w.alloc (.cells #[.int .i64 en,.int .i64 mn] 23)) 58 #[.slice none 0 0,.int .i64 le,.int .i64 lm,.bool false];have HB:=jY (hb1.alloc hb1.size (.cells #[.slice none 0 0,.int .i64 le,.int .i64 lm,.bool false] 58));have hsz:(w.alloc (.cells #[.int .i64 en,.int .i64 mn] 23)).heap.size=w.heap.size+1:=Array.size_push _;rw [hsz] at k2;have HR:=jY (show RefC ((w.alloc (.cells #[.int .i64 en,.int .i64 mn] 23)).alloc (.cells #[.slice none 0 0,.int .i64 le,.int .i64 lm,.bool false] 58)) (w.heap.size+1) [] le lm false from ⟨none,0,k2,lAd _,Row.nil _ _⟩);clear hle hlm k1 k2 hb1 hsz
 go_enter Tryz.func58,Tryz.ntmps58
 go_wp2_with fail;go_returns;exact ⟨_,rfl,by omega,HR.out,HB.out⟩
end Go.Proofs.YtcklcmafohlflaaGreatDoor

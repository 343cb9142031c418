/- Texts of one kind in one: ZAdds, ZIs. -/
import Derived.Test.YtcklcmafohlflaaGreatDoorQZLPut21
set_option maxRecDepth 200000
set_option maxHeartbeats 8000000
namespace Go.Proofs.YtcklcmafohlflaaGreatDoor
open Zc (Ent Ext KeepC Ym Z9 Zg Xg Zx Zb Zv Yo Y5 Ze Zz Z4 Zd)
open Go.RowKit Go.Shelf Sk
attribute [local go_sem] Oper.semAt_some
variable {w w' w1 w2:World} {s b l p q sd c:Nat} {D D1:Nat->Prop} {L L1:List Nd} {m:ByteArray->Option Int} {n:Dc.Sh} {le lm:Int} {E:List En}
theorem Fm(W:World)(k:ByteArray)(sc:Int):Row (W.alloc (.cells #[.string k,.int .i64 sc] 94)) 0 (.slice (some ⟨W.heap.size,0,none⟩) 1 1) [(k,sc)]:=by
 have hB:=Blk.new W 94 #[.string k,.int .i64 sc];refine ⟨⟨_,1,rfl⟩,fun i e he=>?_⟩;have hi:i=0:=by have:=(lAb.1 he).1;simpa using this
 subst hi;simp at he;subst he;exact ⟨_,0,1,_,rfl,Nat.zero_le _,hB,hB.cell 0,hB.cell 1⟩
theorem Good.add(h:Good le lm c E)(hc:c+1<=10000)(k:ByteArray)(sc:Int)(hk:k.size<=64)(hs:Pk.Ya sc):Good le lm (c+1) (Vd E k sc) :=
 ⟨h.le,h.lm,x5x h.srt k sc,y6z h.dist k sc,fun e he=>by
   rcases Al.1 he with rfl|he
   ·exact ⟨hk,hs⟩
   ·exact h.each e he.1,by have:=h.len;rw [Kj h.dist];split <;> omega,hc⟩
theorem PSet.put(h:PSet w s b le lm sd c E)(hc:c+1<=10000){k:ByteArray}{sc:Int}(hk:k.size<=64)(hs:Pk.Ya sc)(hf:((Vd E k sc).length:Int)<=le)(hp:PackAt w' b (Vd E k sc))(hfar:Far (fun k=>k=b) w w'):PSet w' s b le lm sd (c+1) (Vd E k sc) :=
 ⟨hfar.blk h.blk (fun e=>by subst e;exact absurd (h.blk.ty h.pk.blk) (by decide)),hp,hf,h.good.add hc k sc hk hs,h.sd⟩
theorem v0k{W:World}(h:PackAt W b E):∀ k cur,Blk W k 94 cur->k≠b:=fun k cur hk e=>by subst e;exact absurd (hk.ty h.blk) (by decide)
theorem y4o{k:ByteArray}(h:whE E k=none):Pp E k=false:=by rw [O9,h];rfl
theorem Fz{i:Nat}{k:ByteArray}(h:whE E k=some i):Pp E k=true:=by rw [O9,h];rfl
theorem z5n(h:PSet w s b le lm sd c E)(hc:c+1<=10000)(k:ByteArray)(sc lv:Int)(hk:k.size<=64)(hs:Pk.Ya sc)(hlv:1<=lv/\lv<=32){i:Nat}(hq:whE E k=some i) :
 Calls Tryz.prog 24 #[.pointer (some ⟨s,0,none⟩),.string k,.int .i64 sc,.int .i64 lv] w fun e w'=>e=.returned (.tuple #[.bool false,.int .i64 0])/\PSet w' s b le lm sd (c+1) (Vd E k sc)/\Far (fun k=>k=b) w w':=by
 have HFULL:=jY (y1m h k);have hsc:=z5z h.pk.ok k;rw [hq] at hsc;obtain ⟨v,hx,hg⟩:=hsc;have HSC:=fun W (hb:Bl w W)=>jY (z5h (h.pk.later hb) k);rw [hg] at HSC;have HDEL:=fun W (hb:Bl w W)=>jY (z8k (h.pk.later hb) h.good.dist k v);have HSB:=fun W (hb:Bl w W)=>jY (Zm (h.blk.later hb)).1.1
 have hrl:(rmE E k).length<200:=by
  have h1:=y6b h.good.dist k;rw [Fz hq] at h1;have h2:=h.pk.ok.many;have h3:=(lAb.1 hx).1;simp only [if_true] at h1;omega
 have HPUT:=fun W (hp:PackAt W b (rmE E k)) v (hr:Row W 0 v [(k,sc)])=>jY (v0l hp (z6f h.good.srt k) hrl lv v k hk sc hs hr (v0k hp));have HFIN:=fun W (hp:PackAt W b (Vd E k sc)) (hf:Far (fun k=>k=b) w W)=>jY (h.put hc hk hs (by rw [Kj h.good.dist,Fz hq];exact h.few) hp hf);have HBF:=fun W (hf:Far (fun k=>k=b) w W)=>jY (Zm (hf.blk h.blk (fun e=>by subst e;exact absurd (h.blk.ty h.pk.blk) (by decide)))).1.1;have h1:¬ (64:Int)<k.size:=by omega
 have h2:¬ lv<1:=by omega
 have h3:¬ 32<lv:=by omega
 rw [Fz hq] at HDEL;clear h hq hx hg hrl hk hs hlv hc
 go_enter Tryz.func24,Tryz.ntmps24
 go_wp2_with fail;refine HFULL.out.mono ?_;rintro e w1 ⟨rfl,hb⟩;have HSC1:=HSC w1 hb;have e0:=(HSB w1 hb).out;have HB1:=jY hb;clear hb HSC HFULL;go_wp2_with fail;refine HSC1.out.mono ?_;rintro e w2 ⟨rfl,hb⟩;have hb2:=HB1.out.trans (hb.mono HB1.out.size);have HDEL2:=HDEL w2 hb2;have e2:=(HSB w2 hb2).out;have HB2:=jY hb2;clear hb hb2 HDEL HSC1 HSB e0;go_wp2_with fail;refine HDEL2.out.mono ?_;rintro e w3 ⟨rfl,hp3,hf3⟩;have hf4:=(show Far (fun k=>k=b) w w2 from Far.of_below HB2.out).trans hf3 (fun k hk=>.inl hk);have e3:=(HBF w3 hf4).out;have hb4:=Z0 w3 (.cells #[.string k,.int .i64 sc] 94);have HPUT4:=HPUT _ (hp3.later hb4) _ (Fm w3 k sc);have HF4:=jY (hf4.then_below hb4);clear hp3 hf3 hf4 hb4 HPUT HBF HDEL2 e2;go_wp2_with fail;refine HPUT4.out.mono ?_;rintro e w5 ⟨rfl,hp5,hf5⟩;have hf6:=HF4.out.trans hf5 (fun k hk=>.inl hk);have HR:=jY (And.intro (HFIN w5 hp5 hf6).out hf6);clear hp5 hf5 hf6 HPUT4;go_wp2_with fail;go_ret2;exact ⟨rfl,HR.out⟩
theorem y2g(hblk:Blk w s 114 (Br (.iface 160 (.pointer (some ⟨l,0,none⟩))) le lm sd))(h:LAt w l p q D sd L m n)(k:ByteArray)(sc:Int)(he:L.map en=rmE E k)(hm:MapOf m E)(hn:n.n<=c)(hg:Good le lm c E)(hc:c+1<=10000)(hk:k.size<=64)(hs:Pk.Ya sc)(lv:Int)(hlv:1<=lv/\lv<=32)(v:Value)(hr:Row w 0 v [(k,sc)]) :
 Calls Tryz.prog 142 #[.pointer (some ⟨l,0,none⟩),.int .i64 lv,v] w fun e w'=>e=.returned (.tuple #[])/\∃ D1 L1 m1 n1,LSet w' s l p q D1 L1 m1 n1 le lm sd (c+1) (Vd E k sc)/\LStep w w' l p L D L1 D1:=by
 have hll:L.length<=E.length:=by
  have h1:=congrArg List.length he;rw [List.length_map,y6b hg.dist] at h1
  split at h1 <;> omega
 have h2:=hg.len
 have hp:=v0j h v [(k,sc)] hr (List.pairwise_singleton _ _) (fun x hx hx2=>by
  obtain rfl:x=(k,sc):=by simpa using hx
  rw [he] at hx2
  exact (I3.1 hx2).2 rfl) (fun x hx=>by
  obtain rfl:x=(k,sc):=by simpa using hx
  show k.size<=_
  omega) (by simp;omega) (by simp;omega) lv.toNat (by omega)
 rw [show ((lv.toNat:Nat):Int)=lv by omega] at hp;refine hp.mono fun e w' hq=>?_;obtain ⟨he1,⟨D1,L1,n1,h1,hE,hn1,hs1⟩⟩:=hq;refine ⟨he1,D1,L1,_,n1,⟨hs1.far.blk hblk (fun ho=>h.own_ty ho hblk (by decide)),h1,?_,hm.put k sc,by simp at hn1;omega,hg.add hc k sc hk hs⟩,hs1⟩;rw [hE,he];rfl
theorem y3a(h:PSet w s b le lm sd c E)(hc:c+1<=10000)(k:ByteArray)(sc lv:Int)(hk:k.size<=64)(hs:Pk.Ya sc)(hlv:1<=lv/\lv<=32)(hq:whE E k=none)(hf1:(E.length:Int)<le)(hf2:(k.size:Int)<=lm) :
 Calls Tryz.prog 24 #[.pointer (some ⟨s,0,none⟩),.string k,.int .i64 sc,.int .i64 lv] w fun e w'=>e=.returned (.tuple #[.bool true,.int .i64 0])/\PSet w' s b le lm sd (c+1) (Vd E k sc)/\Far (fun k=>k=b) w w':=by
 have HFULL:=jY (y1m h k);have hsc:=z5z h.pk.ok k;rw [hq] at hsc;have HSC:=fun W (hb:Bl w W)=>jY (z5h (h.pk.later hb) k);rw [hsc] at HSC;have HFIT:=fun W (hb:Bl w W)=>jY (v1j (h.later hb) k hf1 hf2);have HSB:=fun W (hb:Bl w W)=>jY (Zm (h.blk.later hb)).1.1;have hle:=h.good.le;have hrm:=Ve (V7 hq);have HPUT:=fun W (hb:Bl w W) v (hr:Row W 0 v [(k,sc)])=>jY (v0l (h.pk.later hb) h.good.srt (by omega) lv v k hk sc hs hr (v0k (h.pk.later hb)));have hadd:Vd E k sc=Vy E k sc:=by unfold Vd;rw [hrm]
 have HFIN:=fun W (hp:PackAt W b (Vd E k sc)) (hf:Far (fun k=>k=b) w W)=>jY (h.put hc hk hs (by rw [Kj h.good.dist,y4o hq];simp;omega) hp hf);have h1:¬ (64:Int)<k.size:=by omega
 have h2:¬ lv<1:=by omega
 have h3:¬ 32<lv:=by omega
 rw [hadd] at *;clear h hq hsc hk hs hlv hc hf1 hf2 hle hrm hadd
 go_enter Tryz.func24,Tryz.ntmps24
 go_wp2_with fail;refine HFULL.out.mono ?_;rintro e w1 ⟨rfl,hb⟩;have HSC1:=HSC w1 hb;have e0:=(HSB w1 hb).out;have HB1:=jY hb;clear hb HSC HFULL;go_wp2_with fail;refine HSC1.out.mono ?_;rintro e w2 ⟨rfl,hb⟩;have hb2:=HB1.out.trans (hb.mono HB1.out.size);have HFIT2:=HFIT w2 hb2;have HB2:=jY hb2;clear hb hb2 HFIT HSC1 e0;go_wp2_with fail;refine HFIT2.out.mono ?_;rintro e w3 ⟨rfl,hb⟩;have hb3:=HB2.out.trans (hb.mono HB2.out.size);have e3:=(HSB w3 hb3).out;have hb4:=hb3.trans ((Z0 w3 (.cells #[.string k,.int .i64 sc] 94)).mono hb3.size);have HPUT4:=HPUT _ hb4 _ (Fm w3 k sc);have HB4:=jY hb4;clear hb hb3 hb4 HPUT HSB HFIT2;go_wp2_with fail;refine HPUT4.out.mono ?_;rintro e w5 ⟨rfl,hp5,hf5⟩;have hf6:=(show Far (fun k=>k=b) w _ from Far.of_below HB4.out).trans hf5 (fun k hk=>.inl hk);have HR:=jY (And.intro (HFIN w5 hp5 hf6).out hf6);clear hp5 hf5 hf6 HPUT4;go_wp2_with fail;go_ret2;exact ⟨rfl,HR.out⟩
theorem z8s(h:PSet w s b le lm sd c E)(hc:c+1<=10000)(k:ByteArray)(sc lv:Int)(hk:k.size<=64)(hs:Pk.Ya sc)(hlv:1<=lv/\lv<=32)(hq:whE E k=none)(hf1:le<=(E.length:Int)\/lm<(k.size:Int)) :
 Calls Tryz.prog 24 #[.pointer (some ⟨s,0,none⟩),.string k,.int .i64 sc,.int .i64 lv] w fun e w'=>e=.returned (.tuple #[.bool true,.int .i64 0])/\∃ l p q D L m n,LSet w' s l p q D L m n le lm sd (c+1) (Vd E k sc)/\(∀ k,M8 l p L D k->w.heap.size<=k)/\Far (fun k=>k=s) w w':=by
 have HFULL:=jY (y1m h k);have hsc:=z5z h.pk.ok k;rw [hq] at hsc;have HSC:=fun W (hb:Bl w W)=>jY (z5h (h.pk.later hb) k);rw [hsc] at HSC;have HFIT:=fun W (hb:Bl w W)=>jY (x8a (h.later hb) k hf1);have HSB:=fun W (hb:Bl w W)=>jY (Zm (h.blk.later hb)).1.1;have hrm:=Ve (V7 hq);have HPUT:=fun W l p q D L m n (hL:LSet W s l p q D L m n le lm sd c E) v (hr:Row W 0 v [(k,sc)])=>jY (y2g hL.blk hL.li k sc (by rw [hrm];exact hL.en) hL.map hL.n hL.good hc hk hs lv hlv v hr);have h1:¬ (64:Int)<k.size:=by omega
 have h2:¬ lv<1:=by omega
 have h3:¬ 32<lv:=by omega
 have HSL:=jY h.blk.lt;clear h hq hsc hk hs hlv hc hf1 hrm
 go_enter Tryz.func24,Tryz.ntmps24
 go_wp2_with fail;refine HFULL.out.mono ?_;rintro e w1 ⟨rfl,hb⟩;have HSC1:=HSC w1 hb;have e0:=(HSB w1 hb).out;have HB1:=jY hb;clear hb HSC HFULL HSB;go_wp2_with fail;refine HSC1.out.mono ?_;rintro e w2 ⟨rfl,hb⟩;have hb2:=HB1.out.trans (hb.mono HB1.out.size);have HFIT2:=HFIT w2 hb2;have HB2:=jY hb2;clear hb hb2 HFIT HSC1 e0;go_wp2_with fail;refine HFIT2.out.mono ?_;rintro e w3 ⟨rfl,l,p,q,D,L,m,n,hL,hown,hf⟩;have e3:=(Zm hL.blk).1.1;have hb4:=Z0 w3 (.cells #[.string k,.int .i64 sc] 94);have HPUT4:=HPUT _ l p q D L m n (hL.later hb4) _ (Fm w3 k sc);have HF4:=jY ((show Far (fun k=>k=s) w w2 from Far.of_below HB2.out).trans (hf.then_below hb4) (fun k hk=>.inl hk));have HOW:=jY (show ∀ k,M8 l p L D k->w.heap.size<=k from fun k hk=>lAe HB2.out.size (hown k hk));clear hL hown hf hb4 HPUT HFIT2;go_wp2_with fail;refine HPUT4.out.mono ?_;rintro e w5 ⟨rfl,D5,L5,m5,n5,h5,hs5⟩
 have HR:=jY (show ∃ l p q D L m n,LSet w5 s l p q D L m n le lm sd (c+1) (Vd E k sc)/\(∀ k,M8 l p L D k->w.heap.size<=k)/\Far (fun k=>k=s) w w5 from
  ⟨l,p,q,D5,L5,m5,n5,h5,fun k hk=>by
    rcases hs5.new k hk with h|h
    ·exact HOW.out k h
    ·exact lAe HF4.out.size h,HF4.out.trans hs5.far (fun k hk=>.inr (HOW.out k hk))⟩)
 clear h5 hs5 HPUT4;go_wp2_with fail;go_ret2;exact ⟨rfl,HR.out⟩
theorem z4x(h:LSet w s l p q D L m n le lm sd c E)(h4:E.length<400)(hc:c+1<=10000)(k:ByteArray)(sc lv:Int)(hk:k.size<=64)(hs:Pk.Ya sc)(hlv:1<=lv/\lv<=32){i:Nat}(hq:whE E k=some i) :
 Calls Tryz.prog 24 #[.pointer (some ⟨s,0,none⟩),.string k,.int .i64 sc,.int .i64 lv] w fun e w'=>e=.returned (.tuple #[.bool false,.int .i64 0])/\∃ D1 L1 m1 n1,LSet w' s l p q D1 L1 m1 n1 le lm sd (c+1) (Vd E k sc)/\LStep w w' l p L D L1 D1:=by
 have HFULL:=jY (x2h h h4 k);have hmg:=z4y h.map k;rw [hq] at hmg;obtain ⟨v,hv,hi⟩:=hmg;have hnc:=h.n;have hcap:=h.good.cap;have HSC:=fun W (hb:Bl w W)=>jY (z4s (h.later hb).li (by omega) k (by omega));rw [hv] at HSC;have HLS:=fun W W' (hb:Bl w W) (hn:Dc.IsNow D W q sd m n.step1 W')=>jY (And.intro ((h.later hb).dict hn (by rw [z6g];exact hnc)) ((show LStep w W l p L D L D from LStep.below hb).trans (LStep.dict hn)));have HDEL:=fun W D1 n1 (h1:LSet W s l p q D1 L m n1 le lm sd c E)=>jY (x3c h1.li h1.lenN (by rw [h1.en];exact h1.good.dist) (k,v) (by rw [h1.en];exact lAc hi));have HSB:=fun W (hb:Bl w W)=>jY (Zm (h.blk.later hb)).1.1;have HPUT:=fun W D3 L3 n3 (hblk:Blk W s 114 (Br (.iface 160 (.pointer (some ⟨l,0,none⟩))) le lm sd)) (hL:LAt W l p q D3 sd L3 m n3) (he:L3.map en=rmE E k) (hn:n3.n<=c) v (hr:Row W 0 v [(k,sc)])=>jY (y2g hblk hL k sc he h.map hn h.good hc hk hs lv hlv v hr);have h1:¬ (64:Int)<k.size:=by omega
 have h2:¬ lv<1:=by omega
 have h3:¬ 32<lv:=by omega
 clear h hq hv hi hnc hcap hk hs hlv hc h4
 go_enter Tryz.func24,Tryz.ntmps24
 go_wp2_with fail;refine HFULL.out.mono ?_;rintro e w1 ⟨rfl,hb⟩;have HSC1:=HSC w1 hb;have HLS1:=HLS w1;have e0:=(HSB w1 hb).out;have HB1:=jY hb;clear hb HSC HFULL HSB HLS;go_wp2_with fail;refine HSC1.out.mono ?_;rintro e w2 ⟨rfl,hn⟩;obtain ⟨hL2,hs2⟩:=(HLS1 w2 HB1.out hn).out;have e2:=(Zm hL2.blk).1.1;have hme:=z8c (Za hL2.li.blk).1;have HDEL2:=HDEL w2 _ _ hL2;have HL2:=jY hL2;have HS2:=jY hs2;clear hn hL2 hs2 HSC1 HLS1 HDEL e0;go_wp2_with fail;refine HDEL2.out.mono ?_;rintro e w3 ⟨rfl,L3,he3,hL3,hs3⟩;rw [HL2.out.en] at he3;have hblk3:=HL2.out.blk_step hs3;have e3:=(Zm hblk3).1.1;have hb4:=Z0 w3 (.cells #[.string k,.int .i64 sc] 94);have HPUT4:=HPUT _ _ L3 _ (hblk3.later hb4) (hL3.later hb4) he3 HL2.out.n _ (Fm w3 k sc);have HS4:=jY ((HS2.out.trans hs3).trans (LStep.below hb4));clear he3 hL3 hs3 hblk3 hb4 HPUT HDEL2 e2 hme HL2;go_wp2_with fail;refine HPUT4.out.mono ?_;rintro e w5 ⟨rfl,D5,L5,m5,n5,h5,hs5⟩;have HR:=jY (show ∃ D1 L1 m1 n1,LSet w5 s l p q D1 L1 m1 n1 le lm sd (c+1) (Vd E k sc)/\LStep w w5 l p L D L1 D1 from ⟨D5,L5,m5,n5,h5,HS4.out.trans hs5⟩);clear h5 hs5 HPUT4;go_wp2_with fail;go_ret2;exact ⟨rfl,HR.out⟩
theorem y2f(h:LSet w s l p q D L m n le lm sd c E)(h4:E.length<400)(hc:c+1<=10000)(k:ByteArray)(sc lv:Int)(hk:k.size<=64)(hs:Pk.Ya sc)(hlv:1<=lv/\lv<=32)(hq:whE E k=none) :
 Calls Tryz.prog 24 #[.pointer (some ⟨s,0,none⟩),.string k,.int .i64 sc,.int .i64 lv] w fun e w'=>e=.returned (.tuple #[.bool true,.int .i64 0])/\∃ D1 L1 m1 n1,LSet w' s l p q D1 L1 m1 n1 le lm sd (c+1) (Vd E k sc)/\LStep w w' l p L D L1 D1:=by
 have HFULL:=jY (x2h h h4 k);have hmg:=z4y h.map k;rw [hq] at hmg;simp only at hmg;have hnc:=h.n;have hcap:=h.good.cap;have hrm:=Ve (V7 hq);have HSC:=fun W (hb:Bl w W)=>jY (z4s (h.later hb).li (by omega) k (by omega));rw [hmg] at HSC;have HLS:=fun W W' (hb:Bl w W) (hn:Dc.IsNow D W q sd m n.step1 W')=>jY (And.intro ((h.later hb).dict hn (by rw [z6g];exact hnc)) ((show LStep w W l p L D L D from LStep.below hb).trans (LStep.dict hn)));have HSB:=fun W (hb:Bl w W)=>jY (Zm (h.blk.later hb)).1.1;have HPUT:=fun W D3 n3 (hL:LSet W s l p q D3 L m n3 le lm sd c E) v (hr:Row W 0 v [(k,sc)])=>jY (y2g hL.blk hL.li k sc (by rw [hrm];exact hL.en) hL.map hL.n hL.good hc hk hs lv hlv v hr);have h1:¬ (64:Int)<k.size:=by omega
 have h2:¬ lv<1:=by omega
 have h3:¬ 32<lv:=by omega
 clear h hq hmg hnc hcap hk hs hlv hc h4 hrm
 go_enter Tryz.func24,Tryz.ntmps24
 go_wp2_with fail;refine HFULL.out.mono ?_;rintro e w1 ⟨rfl,hb⟩;have HSC1:=HSC w1 hb;have HLS1:=HLS w1;have e0:=(HSB w1 hb).out;have HB1:=jY hb;clear hb HSC HFULL HSB HLS;go_wp2_with fail;refine HSC1.out.mono ?_;rintro e w2 ⟨rfl,hn⟩;obtain ⟨hL2,hs2⟩:=(HLS1 w2 HB1.out hn).out;have HFIT:=jY (v3m hL2.blk k);have HL2:=jY hL2;have HS2:=jY hs2;clear hn hL2 hs2 HSC1 HLS1 e0;go_wp2_with fail;refine HFIT.out.mono ?_;rintro e w3 ⟨rfl,hb⟩;have e3:=(Zm (HL2.out.later hb).blk).1.1;have hb4:=hb.trans ((Z0 w3 (.cells #[.string k,.int .i64 sc] 94)).mono hb.size);have HPUT4:=HPUT _ _ _ (HL2.out.later hb4) _ (Fm w3 k sc);have HS4:=jY (HS2.out.trans (LStep.below hb4));clear hb hb4 HPUT HFIT HL2;go_wp2_with fail;refine HPUT4.out.mono ?_;rintro e w5 ⟨rfl,D5,L5,m5,n5,h5,hs5⟩;have HR:=jY (show ∃ D1 L1 m1 n1,LSet w5 s l p q D1 L1 m1 n1 le lm sd (c+1) (Vd E k sc)/\LStep w w5 l p L D L1 D1 from ⟨D5,L5,m5,n5,h5,HS4.out.trans hs5⟩);clear h5 hs5 HPUT4;go_wp2_with fail;go_ret2;exact ⟨rfl,HR.out⟩
theorem Good.more{le lm:Int}{c c':Nat}{E:List En}(h:Good le lm c E)(h1:c<=c')(h2:c'<=10000):Good le lm c' E:=⟨h.le,h.lm,h.srt,h.dist,h.each,lAe h.len h1,h2⟩
def SetIs(W:World)(s:Nat)(S:Nat->Prop)(isL:Bool)(le lm:Int)(c:Nat)(E:List En):Prop :=
 ∃ sd,(isL=false/\∃ b,PSet W s b le lm sd c E/\∀ k,S k↔(k=s\/k=b)) \/
  (isL=true/\∃ l p q D L m n,LSet W s l p q D L m n le lm sd c E/\∀ k,S k↔(k=s\/M8 l p L D k))
def SetNow(w:World)(s:Nat)(S:Nat->Prop)(isL:Bool)(le lm:Int)(c:Nat)(E:List En)(w':World):Prop :=
 ∃ S',SetIs w' s S' isL le lm c E/\(∀ k,S' k->S k\/w.heap.size<=k)/\Far S w w'
variable {w w' w1 w2:World} {s c:Nat} {S S1:Nat->Prop} {isL:Bool} {le lm:Int} {E:List En}
theorem SetIs.good(h:SetIs w s S isL le lm c E):Good le lm c E:=by
 obtain ⟨sd,⟨_,b,h,_⟩|⟨_,l,p,q,D,L,m,n,h,_⟩⟩:=h
 ·exact h.good
 ·exact h.good
theorem SetIs.lt(h:SetIs w s S isL le lm c E){k:Nat}(hk:S k):k<w.heap.size:=by
 obtain ⟨sd,⟨_,b,h,hS⟩|⟨_,l,p,q,D,L,m,n,h,hS⟩⟩:=h
 ·rcases (hS k).1 hk with rfl|rfl
  ·exact h.blk.lt
  ·exact h.pk.blk.lt
 ·rcases (hS k).1 hk with rfl|hk
  ·exact h.blk.lt
  ·exact h.li.own_lt hk
theorem SetIs.far(h:SetIs w s S isL le lm c E)(hf:Far S1 w w')(hd:∀ k,S k->¬ S1 k):SetIs w' s S isL le lm c E:=by
 obtain ⟨sd,⟨h0,b,h,hS⟩|⟨h0,l,p,q,D,L,m,n,h,hS⟩⟩:=h
 ·exact ⟨sd,.inl ⟨h0,b,⟨hf.blk h.blk (hd s ((hS s).2 (.inl rfl))),h.pk.far hf (hd b ((hS b).2 (.inr rfl))),h.few,h.good,h.sd⟩,hS⟩⟩
 ·exact ⟨sd,.inr ⟨h0,l,p,q,D,L,m,n,⟨hf.blk h.blk (hd s ((hS s).2 (.inl rfl))),h.li.far hf (fun k hk=>hd k ((hS k).2 (.inr hk))),h.en,h.map,h.n,h.good⟩,hS⟩⟩
theorem SetIs.later(h:SetIs w s S isL le lm c E)(hb:Bl w w'):SetIs w' s S isL le lm c E:=h.far (S1:=fun _=>False) (Far.of_below hb) fun _ _ h=>h
theorem SetIs.more(h:SetIs w s S isL le lm c E){c':Nat}(h1:c<=c')(h2:c'<=10000):SetIs w s S isL le lm c' E:=by
 obtain ⟨sd,⟨h0,b,h,hS⟩|⟨h0,l,p,q,D,L,m,n,h,hS⟩⟩:=h
 ·exact ⟨sd,.inl ⟨h0,b,⟨h.blk,h.pk,h.few,h.good.more h1 h2,h.sd⟩,hS⟩⟩
 ·exact ⟨sd,.inr ⟨h0,l,p,q,D,L,m,n,⟨h.blk,h.li,h.en,h.map,lAe h.n h1,h.good.more h1 h2⟩,hS⟩⟩
theorem SetNow.same(h:SetIs w s S isL le lm c E)(hb:Bl w w'):SetNow w s S isL le lm c E w':=⟨S,h.later hb,fun _ h=>.inl h,Far.of_below hb⟩
theorem SetNow.more(h:SetNow w s S isL le lm c E w'){c':Nat}(h1:c<=c')(h2:c'<=10000):SetNow w s S isL le lm c' E w':=by
 obtain ⟨S',h3,h4⟩:=h;exact ⟨S',h3.more h1 h2,h4⟩
theorem SetNow.pack{b sd:Nat}(hS:∀ k,S k↔(k=s\/k=b))(h:PSet w' s b le lm sd c E)(hf:Far (fun k=>k=b) w w'):SetNow w s S false le lm c E w' :=
 ⟨S,⟨sd,.inl ⟨rfl,b,h,hS⟩⟩,fun _ h=>.inl h,hf.mono fun k hk=>(hS k).2 (.inr hk)⟩
theorem SetNow.list{l p q sd:Nat}{D D1:Nat->Prop}{L L1:List Nd}{m1:ByteArray->Option Int}{n1:Dc.Sh}(hS:∀ k,S k↔(k=s\/M8 l p L D k))(h:LSet w' s l p q D1 L1 m1 n1 le lm sd c E)(hs:LStep w w' l p L D L1 D1):SetNow w s S true le lm c E w' :=
 ⟨fun k=>k=s\/M8 l p L1 D1 k,⟨sd,.inr ⟨rfl,l,p,q,D1,L1,m1,n1,h,fun _=>Iff.rfl⟩⟩,fun k hk=>by
   rcases hk with rfl|hk
   ·exact .inl ((hS k).2 (.inl rfl))
   ·rcases hs.new k hk with h|h
    ·exact .inl ((hS k).2 (.inr h))
    ·exact .inr h,hs.far.mono fun k hk=>(hS k).2 (.inr hk)⟩
theorem z6b(h:SetIs w s S isL le lm c E):Calls Tryz.prog 19 #[.pointer (some ⟨s,0,none⟩)] w fun e w'=>e=.returned (.int .i64 E.length)/\Bl w w':=by
 obtain ⟨sd,⟨_,b,h,_⟩|⟨_,l,p,q,D,L,m,n,h,_⟩⟩:=h
 ·exact v2k h
 ·exact v1z h
theorem y9o(h:SetIs w s S isL le lm c E)(f t:Int):Calls Tryz.prog 18 #[.pointer (some ⟨s,0,none⟩),.int .i64 f,.int .i64 t] w fun e w'=>∃ r,e=.returned r/\Row w' w.heap.size r (Ua E f t)/\Bl w w':=by
 obtain ⟨sd,⟨_,b,h,_⟩|⟨_,l,p,q,D,L,m,n,h,_⟩⟩:=h
 ·exact x4v h f t
 ·exact x3k h f t
theorem y3v(h:SetIs w s S isL le lm c E)(k:ByteArray)(hk:k.size<=281474976710656):Calls Tryz.prog 31 #[.pointer (some ⟨s,0,none⟩),.string k] w fun e w'=>e=.returned (.bool (Pp E k))/\SetNow w s S isL le lm c (rmE E k) w':=by
 obtain ⟨sd,⟨rfl,b,h,hS⟩|⟨rfl,l,p,q,D,L,m,n,h,hS⟩⟩:=h
 ·exact (y8p h k).mono fun _ _ ⟨he,h1,hf⟩=>⟨he,SetNow.pack hS h1 hf⟩
 ·exact (y7x h k hk).mono fun _ _ ⟨he,D1,L1,m1,n1,h1,hs⟩=>⟨he,SetNow.list hS h1 hs⟩
def Cw(k:ByteArray)(lv:Int):Bool:=decide (64<k.size\/lv<1\/32<lv)
def z3m(E:List En)(k:ByteArray)(lv:Int):Bool:=!Cw k lv&&!Pp E k
def z3n(k:ByteArray)(lv:Int):Int:=if Cw k lv then 2 else 0
def Mb(E:List En)(k:ByteArray)(sc lv:Int):List En:=if Cw k lv then E else Vd E k sc
def Ma(le lm:Int)(isL:Bool)(E:List En)(k:ByteArray)(lv:Int):Bool:=isL || (!Cw k lv&&(!Pp E k&&(decide (le<=(E.length:Int)) || decide (lm<(k.size:Int)))))
theorem y6c(h:SetIs w s S isL le lm c E)(h4:E.length<400)(hc:c+1<=10000)(k:ByteArray)(sc lv:Int)(hs:Pk.Ya sc) :
 Calls Tryz.prog 24 #[.pointer (some ⟨s,0,none⟩),.string k,.int .i64 sc,.int .i64 lv] w fun e w'=>e=.returned (.tuple #[.bool (z3m E k lv),.int .i64 (z3n k lv)])/\SetNow w s S (Ma le lm isL E k lv) le lm (c+1) (Mb E k sc lv) w':=by
 unfold z3m z3n Mb Ma
 by_cases hb:64<k.size\/lv<1\/32<lv
 ·have hb2:Cw k lv=true:=decide_eq_true hb;rw [hb2];simp only [if_true,Bool.not_true,Bool.false_and,Bool.or_false];refine (x7e k sc lv hb w).mono ?_;rintro e w' ⟨rfl,rfl⟩;exact ⟨rfl,SetNow.more (SetNow.same h (Below.refl _ _)) (by omega) hc⟩
 ·have hb2:Cw k lv=false:=decide_eq_false hb;rw [hb2];simp only [Bool.false_eq_true,if_false,Bool.not_false,Bool.true_and];have hk:k.size<=64:=by omega
  have hlv:1<=lv/\lv<=32:=by omega
  obtain ⟨sd,⟨rfl,b,h,hS⟩|⟨rfl,l,p,q,D,L,m,n,h,hS⟩⟩:=h
  ·cases hq:whE E k with
   | some i =>
     rw [Fz hq];exact (z5n h hc k sc lv hk hs hlv hq).mono fun _ _ ⟨he,h1,hf⟩=>⟨he,SetNow.pack hS h1 hf⟩
   | none =>
     rw [y4o hq]
     by_cases h1:le<=(E.length:Int)\/lm<(k.size:Int)
     ·have h2:(decide (le<=(E.length:Int)) || decide (lm<(k.size:Int)))=true:=by simpa using h1
      rw [h2];refine (z8s h hc k sc lv hk hs hlv hq h1).mono ?_;rintro e w' ⟨rfl,l,p,q,D,L,m,n,h3,hown,hf⟩;refine ⟨rfl,fun k=>k=s\/M8 l p L D k,⟨sd,.inr ⟨rfl,l,p,q,D,L,m,n,h3,fun _=>Iff.rfl⟩⟩,fun j hj=>?_,hf.mono fun j hj=>(hS j).2 (.inl hj)⟩;rcases hj with rfl|hj
      ·exact .inl ((hS j).2 (.inl rfl))
      ·exact .inr (hown j hj)
     ·have h2:(decide (le<=(E.length:Int)) || decide (lm<(k.size:Int)))=false:=by simpa using h1
      rw [h2];exact (y3a h hc k sc lv hk hs hlv hq (by omega) (by omega)).mono fun _ _ ⟨he,h1,hf⟩=>⟨he,SetNow.pack hS h1 hf⟩
  ·cases hq:whE E k with
   | some i =>
     rw [Fz hq];exact (z4x h h4 hc k sc lv hk hs hlv hq).mono fun _ _ ⟨he,D1,L1,m1,n1,h1,hf⟩=>⟨he,SetNow.list hS h1 hf⟩
   | none =>
     rw [y4o hq];exact (y2f h h4 hc k sc lv hk hs hlv hq).mono fun _ _ ⟨he,D1,L1,m1,n1,h1,hf⟩=>⟨he,SetNow.list hS h1 hf⟩
def Z6(n hi:Int):Int:=min (max n 0) hi
theorem A4:P4 []:=⟨by simp,fun e he=>by cases he⟩
theorem x5t(en mn le lm:Int)(hle:min (max en 0) 200=le)(hlm:min (max mn 0) 64=lm)(sd:Nat)(hsd:sd<4294967296)(w:World):Calls Tryz.prog 95 #[.agg #[.int .i64 en,.int .i64 mn],.int .u32 sd] w fun e w'=>∃ s S,e=.returned (.pointer (some ⟨s,0,none⟩))/\SetIs w' s S false le lm 0 []/\(∀ k,S k->w.heap.size<=k)/\Bl w w':=by
 have k0:=Blk.new w 23 #[.int .i64 en,.int .i64 mn];have HN:=fun W=>jY (Pk.Uv W);obtain ⟨e0,e1,g0,g1⟩:=Za k0;have hl1:0<=le/\le<=200:=by omega
 have hl2:0<=lm/\lm<=64:=by omega
 go_enter Tryz.func95,Tryz.ntmps95
 go_wp2_with fail;obtain ⟨W1,hW1⟩:∃ W1,W1=w.alloc (.cells #[.int .i64 le,.int .i64 lm] 23):=⟨_,rfl⟩;have HB:=jY (show Bl w W1 from hW1 ▸ Z0 w (.cells #[.int .i64 le,.int .i64 lm] 23));have K1:=jY (show Blk W1 w.heap.size 23 #[.int .i64 le,.int .i64 lm] from hW1 ▸ Blk.new w 23 #[.int .i64 le,.int .i64 lm]);rw [<- hW1];clear hW1 k0 e0 e1 g0 g1 hle hlm;have S0:W1.drew.cell? ⟨w.heap.size,0,none⟩=some (.int .i64 le)/\W1.drew.cell? ⟨w.heap.size,1,none⟩=some (.int .i64 lm):=⟨(Za K1.out).1,(Za K1.out).2.1⟩
 go_region_held (fun W=>W.cell? ⟨w.heap.size,0,none⟩=some (.int .i64 le)/\W.cell? ⟨w.heap.size,1,none⟩=some (.int .i64 lm)) (first|exact S0|(exact ⟨(Za (K1.out.drew.alloc _)).1,(Za (K1.out.drew.alloc _)).2.1⟩)|(exact ⟨(Za ((K1.out.drew.alloc _).alloc _)).1,(Za ((K1.out.drew.alloc _).alloc _)).2.1⟩))
  (first
    | (go_at_call 80;refine (HN _).out.mono ?_;rintro e w2 ⟨rfl,rfl⟩))
 all_goals (
  clear S0;go_wp2_with fail;go_ret;have hz:=HB.out.size;have hbA:=Z0 W1 (.cells #[.string (Pk.Y9 [])] 151);have hbB:=Z0 (W1.alloc (.cells #[.string (Pk.Y9 [])] 151)) (.cells (Br (.iface 148 (.pointer (some ⟨W1.heap.size,0,none⟩))) le lm sd) 114);have hzA:=hbA.size;have kN:=Blk.new (W1.alloc (.cells #[.string (Pk.Y9 [])] 151)) 114 (Br (.iface 148 (.pointer (some ⟨W1.heap.size,0,none⟩))) le lm sd);rw [World.size_alloc] at kN;refine ⟨_,fun k=>k=W1.heap.size+1\/k=W1.heap.size,rfl,⟨sd,.inl ⟨rfl,W1.heap.size,⟨kN,⟨(Blk.new W1 151 #[.string (Pk.Y9 [])]).alloc _,A4⟩,by simpa using hl1.1,⟨hl1,hl2,List.Pairwise.nil,List.Pairwise.nil,fun e he=>(by cases he),lAd _,by omega⟩,hsd⟩,fun k=>Iff.rfl⟩⟩,fun k hk=>by omega,?_⟩
  exact (HB.out.trans ((hbA.trans (hbB.mono hzA)).mono hz)).drew)
theorem x9n(en mn:Int)(sd:Nat)(hsd:sd<4294967296)(w:World):Calls Tryz.prog 95 #[.agg #[.int .i64 en,.int .i64 mn],.int .u32 sd] w fun e w'=>∃ s S,e=.returned (.pointer (some ⟨s,0,none⟩))/\SetIs w' s S false (Z6 en 200) (Z6 mn 64) 0 []/\(∀ k,S k->w.heap.size<=k)/\Bl w w' :=
 x5t en mn _ _ rfl rfl sd hsd w
end Go.Proofs.YtcklcmafohlflaaGreatDoor

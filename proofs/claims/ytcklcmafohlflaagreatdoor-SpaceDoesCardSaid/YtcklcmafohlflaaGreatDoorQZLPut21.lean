/- Texts of one kind in one: ZLPut, ZLCut, ZMeth, ZSet, ZFit, ZFitP, ZOps, ZAdd. -/
import Derived.Test.YtcklcmafohlflaaGreatDoorQPkMake20
set_option maxRecDepth 200000
set_option maxHeartbeats 8000000
namespace Go.Proofs.YtcklcmafohlflaaGreatDoor
open Zc (Ent Ext KeepC Ym Z9 Zg Xg Zx Zb Zv Yo Y5 Ze Zz Z4 Zd)
open Go.RowKit Go.Shelf Sk
attribute [local go_sem] Oper.semAt_some
variable {w w' w1 w2:World} {l p q sd:Nat} {D D1 D2:Nat->Prop} {L L1 L2:List Nd} {m:ByteArray->Option Int} {n:Dc.Sh}
structure LStep (w w':World) (l p:Nat) (L:List Nd) (D:Nat->Prop) (L':List Nd) (D':Nat->Prop):Prop where
 far:Far (M8 l p L D) w w'
 new:∀ k,M8 l p L' D' k->M8 l p L D k\/w.heap.size<=k
theorem LStep.refl:LStep w w l p L D L D:=⟨Far.refl _ _,fun _ h=>.inl h⟩
theorem LStep.trans(h:LStep w w1 l p L D L1 D1)(g:LStep w1 w2 l p L1 D1 L2 D2):LStep w w2 l p L D L2 D2 :=
 ⟨h.far.trans g.far h.new,fun k hk=>by
   rcases g.new k hk with h1|h1
   ·exact h.new k h1
   ·exact .inr (lAe h.far.size h1)⟩
theorem LStep.below(hb:Bl w w1):LStep w w1 l p L D L D:=⟨Far.of_below hb,fun _ h=>.inl h⟩
theorem LStep.dict{m2:ByteArray->Option Int}{n2:Dc.Sh}(hn:Dc.IsNow D w q sd m2 n2 w'):LStep w w' l p L D L (Dc.V3 Dc.tyI D w w') :=
 ⟨(y2r hn.2).mono fun _ h=>.inr (.inr h),fun k hk=>by
   rcases hk with h|h|h
   ·exact .inl (.inl h)
   ·exact .inl (.inr (.inl h))
   ·rcases h.1 with h|h
    ·exact .inl (.inr (.inr h))
    ·exact .inr h⟩
theorem x8h{x:Nd}{k:Nat}(h:isB (hd p :: Xe L x) k):k=x.b\/isB (hd p :: L) k:=by
 obtain ⟨y,hy,rfl⟩:=h;rcases List.mem_cons.1 hy with rfl|hy
 ·exact .inr ⟨_,List.mem_cons_self ..,rfl⟩
 ·unfold Xe at hy;rcases List.mem_append.1 hy with hy|hy
  ·exact .inr ⟨y,List.mem_cons_of_mem _ (List.mem_of_mem_take hy),rfl⟩
  ·rcases List.mem_cons.1 hy with rfl|hy
   ·exact .inl rfl
   ·exact .inr ⟨y,List.mem_cons_of_mem _ (List.mem_of_mem_drop hy),rfl⟩
theorem y5m{a b k:Nat}(h:isB (hd p :: (L.take a++L.drop b)) k):isB (hd p :: L) k:=by
 obtain ⟨y,hy,rfl⟩:=h;rcases List.mem_cons.1 hy with rfl|hy
 ·exact ⟨_,List.mem_cons_self ..,rfl⟩
 ·rcases List.mem_append.1 hy with hy|hy
  ·exact ⟨y,List.mem_cons_of_mem _ (List.mem_of_mem_take hy),rfl⟩
  ·exact ⟨y,List.mem_cons_of_mem _ (List.mem_of_mem_drop hy),rfl⟩
theorem LAt.nodes(h:LAt w l p q D sd L m n)(hf:Far (isB (hd p :: L)) w w')(hl:Ls w' p L1):LAt w' l p q D sd L1 m n :=
 ⟨hf.blk h.blk h.l_node,hl,h.is.far (y4m hf) (fun _ hk=>h.d_node hk),h.sd⟩
theorem LStep.nodes(hf:Far (isB (hd p :: L)) w w')(hn:∀ k,isB (hd p :: L1) k->isB (hd p :: L) k\/w.heap.size<=k):LStep w w' l p L D L1 D :=
 ⟨hf.mono fun _ h=>.inr (.inl h),fun k hk=>by
   rcases hk with h|h|h
   ·exact .inl (.inl h)
   ·rcases hn k h with h|h
    ·exact .inl (.inr (.inl h))
    ·exact .inr h
   ·exact .inl (.inr (.inr h))⟩
theorem x3d(h:LAt w l p q D sd L m n)(hN:L.length<=100000)(x:En)(hx:x.1.size<=281474976710656)(lv:Nat)(hl:0<lv/\lv<=32)(hno:x ∉ L.map en) :
 Calls Tryz.prog 166 #[.pointer (some ⟨p,0,none⟩),.agg #[.string x.1,.int .i64 x.2],.int .i64 lv] w fun e w'=>e=.returned (.int .i64 0)/\∃ L1,L1.map en=Vy (L.map en) x.1 x.2/\LAt w' l p q D sd L1 m n/\LStep w w' l p L D L1 D:=by
 have hh:has L x.1 x.2=false:=by
  cases h2:has L x.1 x.2 with
  | false=>rfl
  | true=>exact absurd ((y1p h.ls.srt x.1 x.2).1 h2) hno
 refine (y7m h.ls hN x.1 hx x.2 lv hl).mono fun e w' hp=>?_;obtain ⟨he,nb,hnb,hf,hls⟩:=hp.2 hh;refine ⟨he,_,v2m L ⟨nb,x.1,x.2,lv⟩,h.nodes hf hls,LStep.nodes hf fun k hk=>?_⟩;rcases x8h hk with rfl|h1
 ·exact .inr hnb
 ·exact .inl h1
theorem x3c(h:LAt w l p q D sd L m n)(hN:L.length<=100000)(hd:Vk (L.map en))(x:En)(hx:x∈L.map en) :
 Calls Tryz.prog 291 #[.pointer (some ⟨p,0,none⟩),.agg #[.string x.1,.int .i64 x.2]] w fun e w'=>e=.returned (.bool true)/\∃ L1,L1.map en=rmE (L.map en) x.1/\LAt w' l p q D sd L1 m n/\LStep w w' l p L D L1 D:=by
 have hh:has L x.1 x.2=true:=(y1p h.ls.srt x.1 x.2).2 hx;obtain ⟨i,hi⟩:=List.mem_iff_getElem?.1 hx;have hp:=C2 (y4c h.ls.srt) hi;refine (y6x h.ls hN x.1 x.2).mono fun e w' hq=>?_;obtain ⟨he,hf,hls⟩:=hq.2 hh;refine ⟨he,_,?_,h.nodes hf hls,LStep.nodes hf fun k hk=>.inl (y5m hk)⟩;rw [z5l,hp,C7 hd hi,List.map_append,List.map_take,List.map_drop]
theorem v3p(h:LAt w l p q D sd L m n)(hN:L.length<=100000)(f t:Int) :
 Calls Tryz.prog 300 #[.pointer (some ⟨p,0,none⟩),.int .i64 f,.int .i64 t] w fun e w'=>e=.returned (.int .i64 (Ua (L.map en) f t).length)/\∃ L1,L1.map en=Qa (L.map en) f t/\LAt w' l p q D sd L1 m n/\LStep w w' l p L D L1 D:=by
 rw [P0];unfold Qa;rw [List.length_map]
 by_cases hlt:f0 f<t0 t L.length
 ·rw [if_pos hlt];refine (v1d h.ls hN f t (f0 f) (t0 t L.length) (by unfold f0;omega) (by unfold t0 f0 at *;omega) hlt).mono fun e w' hq=>?_;obtain ⟨he,hf,hls⟩:=hq;refine ⟨by rw [he];congr 2;omega,_,?_,h.nodes hf hls,LStep.nodes hf fun k hk=>.inl (y5m hk)⟩;rw [List.map_append,List.map_take,List.map_drop]
 ·rw [if_neg hlt];refine (x1s p L rfl w h.ls.sk f t (by unfold t0 f0 at hlt;omega)).mono fun e w' hq=>?_;obtain ⟨he,rfl⟩:=hq;refine ⟨?_,L,rfl,h,LStep.refl⟩;rw [he,show t0 t L.length-f0 f=0 by omega];rfl
theorem v3r(h:LAt w l p q D sd L m n)(hn:n.n+1<=1000000)(key:ByteArray)(hk:key.size<=281474976710656)(v:Int) :
 Calls Tryz.prog 167 #[.pointer (some ⟨q,0,none⟩),.string key,.int .i64 v] w fun e w'=>(∃ bb,e=.returned (.bool bb))/\∃ D1,LAt w' l p q D1 sd L (z1d m key v) (n.set (m key).isSome)/\LStep w w' l p L D L D1 :=
 (Dc.y3u h.sd h.is hn key hk v).mono fun _ _ ⟨he,hi⟩=>⟨⟨_,he⟩,_,h.dict hi,LStep.dict hi⟩
theorem x8k(h:LAt w l p q D sd L m n)(hn:n.n<=1000000)(key:ByteArray)(hk:key.size<=281474976710656) :
 Calls Tryz.prog 299 #[.pointer (some ⟨q,0,none⟩),.string key] w fun e w'=>(∃ bb,e=.returned (.bool bb))/\∃ D1,LAt w' l p q D1 sd L (z5w m key) (n.del (m key).isSome)/\LStep w w' l p L D L D1 :=
 (Dc.y0v h.sd h.is hn key hk).mono fun _ _ ⟨he,hi,_⟩=>⟨⟨_,he⟩,_,h.dict hi,LStep.dict hi⟩
def Vr(E xs:List En):List En:=xs.foldl (fun E x=>Vy E x.1 x.2) E
def Pv(m:ByteArray->Option Int)(xs:List En):ByteArray->Option Int:=xs.foldl (fun m x=>z1d m x.1 x.2) m
theorem Cl(E xs:List En)(k:Nat)(x:En)(h:xs[k]?=some x):Vr E (xs.take (k+1))=Vy (Vr E (xs.take k)) x.1 x.2:=by
 obtain ⟨hk,rfl⟩:=lAb.1 h;unfold Vr;rw [lAf hk,List.foldl_append];rfl
theorem y3e(m:ByteArray->Option Int)(xs:List En)(k:Nat)(x:En)(h:xs[k]?=some x):Pv m (xs.take (k+1))=z1d (Pv m (xs.take k)) x.1 x.2:=by
 obtain ⟨hk,rfl⟩:=lAb.1 h;unfold Pv;rw [lAf hk,List.foldl_append];rfl
theorem y2j{xs:List En}:∀ {E:List En} {y:En},y∈Vr E xs↔y∈E\/y∈xs:=by
 induction xs with
 | nil=>intro E y;simp [Vr]
 | cons x xs ih =>
   intro E y;show y∈Vr (Vy E x.1 x.2) xs↔_;rw [ih,Fb,List.mem_cons]
   constructor
   ·rintro ((h|h)|h)
    ·exact .inr (.inl h)
    ·exact .inl h
    ·exact .inr (.inr h)
   ·rintro (h|h|h)
    ·exact .inl (.inr h)
    ·exact .inl (.inl h)
    ·exact .inr h
theorem y3b{xs:List En}:∀ {E:List En},(Vr E xs).length=E.length+xs.length:=by
 induction xs with
 | nil=>intro E;rfl
 | cons x xs ih =>
   intro E;show (Vr (Vy E x.1 x.2) xs).length=_;rw [ih,Fi,List.length_cons];omega
theorem y2p{xs:List En}(hd:Vk xs){k:Nat}{x:En}(h:xs[k]?=some x):x ∉ xs.take k:=fun hm=>by
 obtain ⟨j,hj⟩:=List.mem_iff_getElem?.1 hm;have hjl:=(lAb.1 hj).1;rw [List.length_take] at hjl;rw [List.getElem?_take_of_lt (by omega)] at hj;obtain ⟨h1,h2⟩:=lAb.1 h;obtain ⟨h3,h4⟩:=lAb.1 hj;exact List.pairwise_iff_getElem.1 hd j k h3 h1 (by omega) (by rw [h2,h4])
theorem v4e(n:Dc.Sh)(b:Bool):(n.set b).n<=n.n+1:=by rw [Dc.y6e];cases b <;> simp
theorem v3k(n:Dc.Sh)(b:Bool):(n.del b).n<=n.n:=by rw [Dc.y6d];cases b <;> simp
structure PutAt (w:World) (l p q sd:Nat) (D:Nat->Prop) (L:List Nd) (m:ByteArray->Option Int) (n:Dc.Sh) (xs:List En) (k:Nat) (W:World):Prop where
 ex:∃ D1 L1 n1,LAt W l p q D1 sd L1 (Pv m (xs.take k)) n1/\L1.map en=Vr (L.map en) (xs.take k)/\n1.n<=n.n+k/\LStep w W l p L D L1 D1
theorem LStep.row{v:Value}{xs:List En}{n0:Nat}(h:LAt w l p q D sd L m n)(hr:Row w n0 v xs)(hs:LStep w w1 l p L D L1 D1):Row w1 n0 v xs :=
 hr.far hs.far fun _ _ _ hk ho=>h.own_ty ho hk (by decide)
theorem v0j(h:LAt w l p q D sd L m n)(v:Value)(xs:List En)(hr:Row w 0 v xs)(hd:Vk xs)(hno:∀ x∈xs,x ∉ L.map en)(hz:∀ x∈xs,x.1.size<=281474976710656)(hN:L.length+xs.length<=100000)(hn:n.n+xs.length<=999999)(lv:Nat)(hl:0<lv/\lv<=32) :
 Calls Tryz.prog 142 #[.pointer (some ⟨l,0,none⟩),.int .i64 lv,v] w fun e w'=>e=.returned (.tuple #[])/\PutAt w l p q sd D L m n xs xs.length w':=by
 obtain ⟨a,c,rfl⟩:=hr.form;have HROW:=jY (fun W L1 D1 (hs:LStep w W l p L D L1 D1)=>hs.row h hr);have H0:=jY (show PutAt w l p q sd D L m n xs 0 w from ⟨D,L,n,h,rfl,by omega,LStep.refl⟩);have HNO:=jY hno;have HZ:=jY hz;have HDI:=jY hd;clear h hr hno hz hd
 go_enter Tryz.func142,Tryz.ntmps142
 go_wp2
 go_loopw [10] (fun i wr=>∃ (k:Nat),i=.int .i64 k/\k<=xs.length/\PutAt w l p q sd D L m n xs k wr) (fun i _=>xs.length-(intOf i).toNat)
 case atStart=>exact ⟨0,rfl,by omega,H0.out⟩
 case round =>
  obtain ⟨k,rfl,hk,⟨D1,L1,n1,h1,hE,hn1,hs⟩⟩:=hrel
  by_cases hlt:k<xs.length
  ·have hx:xs[k]?=some xs[k]:=lAa hlt;generalize xs[k]=x at *;obtain ⟨b,off,c',e1,g0,g1⟩:=Xo (HROW.out wr _ _ hs) hx
   injection e1 with e1 _ e2
   subst e1;subst e2;have hxm:=lAc hx
   have hlen:L1.length=L.length+k:=by
    have:=congrArg List.length hE
    rw [List.length_map,y3b,List.length_map,List.length_take] at this;omega
   have hno1:x ∉ L1.map en:=by
    rw [hE,y2j];rintro (h2|h2)
    ·exact HNO.out x hxm h2
    ·exact y2p HDI.out hx h2
   have hzx:=HZ.out x hxm;have hb1:=(Z0 wr (.cells #[.string x.1,.int .i64 x.2] 94)).trans ((Zk (wr.alloc (.cells #[.string x.1,.int .i64 x.2] 94)) 1).mono (by simp));have kE:=(Blk.new wr 94 #[.string x.1,.int .i64 x.2]);have hI:=x3d (h1.later hb1) (by omega) x hzx lv hl hno1;have hE2:∀ L2:List Nd,L2.map en=Vy (L1.map en) x.1 x.2->L2.map en=Vr (L.map en) (xs.take (k+1)):=fun L2 h2=>by rw [h2,hE,Cl _ _ _ _ hx]
   have hm2:=y3e m xs k x hx;have hl1:(lv:Int)<=32:=by omega
   have HSET:=fun (W:World) (L2:List Nd) (h2:LAt W l p q D1 sd L2 (Pv m (xs.take k)) n1)=>jY (v3r h2 (by omega) x.1 hzx x.2);rw [<- hm2] at HSET;have hsz:=v4e n1 ((Pv m (xs.take k)) x.1).isSome
   have FIN:=fun (W:World) (D2:Nat->Prop) (L2:List Nd) (h2:LAt W l p q D2 sd L2 (Pv m (xs.take (k+1))) (n1.set ((Pv m (xs.take k)) x.1).isSome)) (e2:L2.map en=Vy (L1.map en) x.1 x.2) (hs2:LStep wr W l p L1 D1 L2 D2) =>
    jY (show PutAt w l p q sd D L m n xs (k+1) W from ⟨D2,L2,_,h2,hE2 L2 e2,by omega,hs.trans hs2⟩)
   have HS1:=jY (show LStep wr ((wr.alloc (.cells #[.string x.1,.int .i64 x.2] 94)).drew) l p L1 D1 L1 D1 from LStep.below hb1);have HI:=jY hI;have HKE:=fun (W:World) (L2:List Nd) (D2:Nat->Prop) (hs2:LStep ((wr.alloc (.cells #[.string x.1,.int .i64 x.2] 94)).drew) W l p L1 D1 L2 D2)=>jY (hs2.far.blk (kE.later (Zk _ 1)) (fun ho=>(h1.later hb1).own_ty ho (kE.later (Zk _ 1)) (by decide)));have hk2:(k:Int)<xs.length:=by omega
   obtain ⟨c0,c1,_,_⟩:=Za h1.blk;obtain ⟨d0,d1,_,_⟩:=Za (h1.later hb1).blk;obtain ⟨f0,f1,_,_⟩:=Za kE;clear h1 hE hs hn1 hx hlen hno1 hzx hb1 kE hI hE2 hm2 hsz hxm;go_wp2_with fail;have S0:((wr.alloc (.cells #[.string x.1,.int .i64 x.2] 94)).drew).cell? ⟨l,0,none⟩=some (.pointer (some ⟨p,0,none⟩))/\((wr.alloc (.cells #[.string x.1,.int .i64 x.2] 94)).drew).cell? ⟨wr.heap.size,0,none⟩=some (.string x.1)/\((wr.alloc (.cells #[.string x.1,.int .i64 x.2] 94)).drew).cell? ⟨wr.heap.size,1,none⟩=some (.int .i64 x.2):=⟨d0,f0,f1⟩;clear c0 c1 d0 d1 f0 f1 g0 g1
   go_region_held (fun W=>W.cell? ⟨l,0,none⟩=some (.pointer (some ⟨p,0,none⟩))/\W.cell? ⟨wr.heap.size,0,none⟩=some (.string x.1)/\W.cell? ⟨wr.heap.size,1,none⟩=some (.int .i64 x.2)) (first|exact S0|exact S1)
    (first
      | (go_at_call 166;refine HI.out.mono ?_;rintro e w2 ⟨rfl,L2,e2,h2,hs2⟩
         obtain ⟨c0,c1,_,_⟩:=Za h2.blk;obtain ⟨f0,f1,_,_⟩:=Za (HKE w2 L2 D1 hs2).out;have S1:w2.cell? ⟨l,0,none⟩=some (.pointer (some ⟨p,0,none⟩))/\w2.cell? ⟨wr.heap.size,0,none⟩=some (.string x.1)/\w2.cell? ⟨wr.heap.size,1,none⟩=some (.int .i64 x.2):=⟨c0,f0,f1⟩;have hs3:=(HS1.out.trans hs2).trans (LStep.below (Zk w2 1));have h3:=h2.later (Zk w2 1);have S2:w2.drew.cell? ⟨l,1,none⟩=some (.pointer (some ⟨q,0,none⟩))/\w2.drew.cell? ⟨wr.heap.size,0,none⟩=some (.string x.1)/\w2.drew.cell? ⟨wr.heap.size,1,none⟩=some (.int .i64 x.2):=⟨c1,f0,f1⟩;have HK3:=(HKE w2 L2 D1 hs2);have HKE3:=fun (W:World) (L3:List Nd) (D3:Nat->Prop) (hs4:LStep w2.drew W l p L2 D1 L3 D3)=>jY (hs4.far.blk (HK3.out.later (Zk w2 1)) (fun ho=>h3.own_ty ho (HK3.out.later (Zk w2 1)) (by decide)));have HST:=HSET w2.drew L2 h3;have FIN2:=fun (W:World) (D2:Nat->Prop) (h4:LAt W l p q D2 sd L2 (Pv m (xs.take (k+1))) (n1.set ((Pv m (xs.take k)) x.1).isSome)) (hs4:LStep w2.drew W l p L2 D1 L2 D2)=>FIN W D2 L2 h4 e2 (hs3.trans hs4)
         clear HI HKE h2 hs2 h3 hs3 c0 c1 f0 f1 HSET FIN HK3))
   all_goals (
    clear S1;go_wp2_with fail
    go_region_held (fun W=>W.cell? ⟨l,1,none⟩=some (.pointer (some ⟨q,0,none⟩))/\W.cell? ⟨wr.heap.size,0,none⟩=some (.string x.1)/\W.cell? ⟨wr.heap.size,1,none⟩=some (.int .i64 x.2)) (first|exact S2|exact S3)
     (first
       | (go_at_call 167;refine HST.out.mono ?_;rintro e w3 ⟨⟨bb,rfl⟩,D2,h4,hs4⟩
          obtain ⟨c0,c1,_,_⟩:=Za h4.blk;obtain ⟨f0,f1,_,_⟩:=Za (HKE3 w3 L2 D2 hs4).out;have S3:w3.cell? ⟨l,1,none⟩=some (.pointer (some ⟨q,0,none⟩))/\w3.cell? ⟨wr.heap.size,0,none⟩=some (.string x.1)/\w3.cell? ⟨wr.heap.size,1,none⟩=some (.int .i64 x.2):=⟨c1,f0,f1⟩;have HFIN:=FIN2 w3 D2 h4 hs4
          clear HST HKE3 FIN2 h4 hs4 c0 c1 f0 f1))
    all_goals (
     clear S3;go_wp2_with fail
     exact ⟨⟨k+1,by go_num,hlt,HFIN.out⟩,by simp [intOf];omega⟩))
  ·obtain rfl:k=xs.length:=by omega
   have HP:=jY (show PutAt w l p q sd D L m n xs xs.length wr from ⟨D1,L1,n1,h1,hE,hn1,hs⟩);clear h1 hE hs hn1;go_wp2_with fail;go_returns;exact ⟨rfl,HP.out⟩
variable {w w' w1 w2:World} {l p q sd:Nat} {D D1 D2:Nat->Prop} {L L1 L2:List Nd} {m:ByteArray->Option Int} {n:Dc.Sh}
theorem z9c(m:ByteArray->Option Int)(xs:List En)(k:Nat)(x:En)(h:xs[k]?=some x):remAll m (xs.take (k+1))=z5w (remAll m (xs.take k)) x.1:=by
 obtain ⟨hk,rfl⟩:=lAb.1 h;unfold remAll;rw [lAf hk,List.foldl_append];rfl
structure RemAt (w:World) (l p q sd:Nat) (D:Nat->Prop) (L:List Nd) (m:ByteArray->Option Int) (n:Dc.Sh) (xs:List En) (k:Nat) (W:World):Prop where
 ex:∃ D1 n1,LAt W l p q D1 sd L (remAll m (xs.take k)) n1/\n1.n<=n.n/\LStep w W l p L D L D1
theorem x3b(h:LAt w l p q D sd L m n)(hN:L.length<=100000)(hn:n.n<=999999)(hz:∀ x∈L.map en,x.1.size<=281474976710656)(hd:Vk (L.map en))(hm:MapOf m (L.map en))(f t:Int) :
 Calls Tryz.prog 290 #[.pointer (some ⟨l,0,none⟩),.int .i64 f,.int .i64 t] w fun e w'=>e=.returned (.int .i64 (Ua (L.map en) f t).length) /\
  ∃ D1 L1 m1 n1,L1.map en=Qa (L.map en) f t/\MapOf m1 (L1.map en)/\LAt w' l p q D1 sd L1 m1 n1/\n1.n<=n.n/\LStep w w' l p L D L1 D1:=by
 have HR:=jY (z4r h.ls hN f t);have hsub:∀ x∈Ua (L.map en) f t,x.1.size<=281474976710656:=fun x hx=>hz x (List.mem_of_mem_drop (List.mem_of_mem_take hx));have HZ:=jY hsub
 have hmc:MapOf (remAll m (Ua (L.map en) f t)) (Qa (L.map en) f t):=by
  rw [<- z2u hd f t];exact hm.remAll
 have HMC:=jY hmc;have HC:=fun (W:World) D1 m1 n1 (h1:LAt W l p q D1 sd L m1 n1)=>jY (v3p h1 hN f t);have HH:=jY h;have hNs:(Ua (L.map en) f t).length<=100000:=by rw [P0,List.length_map];unfold t0;omega
 obtain ⟨e0,e1,_,_⟩:=Za h.blk;clear h hN hz hd hm hsub hmc;generalize Ua (L.map en) f t=xs at *;generalize Qa (L.map en) f t=EC at *
 go_enter Tryz.func290,Tryz.ntmps290
 go_wp2_with fail;refine HR.out.mono ?_;rintro e w1 ⟨r,rfl,hr,hb⟩;obtain ⟨a,c,rfl⟩:=hr.form;have h1:=HH.out.later hb;have HB:=jY (show LStep w w1 l p L D L D from LStep.below hb);have H0:=jY (show RemAt w1 l p q sd D L m n xs 0 w1 from ⟨D,n,h1,lAd _,LStep.refl⟩);have HROW:=jY (fun W L1 D1 (hs:LStep w1 W l p L D L1 D1)=>hs.row h1 hr);clear hb h1 hr HR HH e0 e1;go_wp2_with fail
 go_loopw [17] (fun i wr=>∃ (k:Nat),i=.int .i64 k/\k<=xs.length/\RemAt w1 l p q sd D L m n xs k wr) (fun i _=>xs.length-(intOf i).toNat)
 case atStart=>exact ⟨0,rfl,by omega,H0.out⟩
 case round =>
  obtain ⟨k,rfl,hk,⟨D1,n1,h1,hn1,hs⟩⟩:=hrel
  by_cases hlt:k<xs.length
  ·have hx:xs[k]?=some xs[k]:=lAa hlt;generalize xs[k]=x at *;obtain ⟨b,off,c',e1,g0,g1⟩:=Xo (HROW.out wr _ _ hs) hx
   injection e1 with e1 _ e2
   subst e1;subst e2;have hzx:=HZ.out x (lAc hx);have hb1:=(Z0 wr (.cells #[.string x.1,.int .i64 x.2] 94)).trans ((Zk (wr.alloc (.cells #[.string x.1,.int .i64 x.2] 94)) 1).mono (by simp));have kE:=(Blk.new wr 94 #[.string x.1,.int .i64 x.2]);have hm2:=z9c m xs k x hx;have HST:=jY (x8k (w:=(wr.alloc (.cells #[.string x.1,.int .i64 x.2] 94)).drew) (h1.later hb1) (by omega) x.1 hzx);rw [<- hm2] at HST;have hsz:=v3k n1 ((remAll m (xs.take k)) x.1).isSome
   have FIN:=fun (W:World) (D2:Nat->Prop) (h2:LAt W l p q D2 sd L (remAll m (xs.take (k+1))) (n1.del ((remAll m (xs.take k)) x.1).isSome)) (hs2:LStep ((wr.alloc (.cells #[.string x.1,.int .i64 x.2] 94)).drew) W l p L D1 L D2) =>
    jY (show RemAt w1 l p q sd D L m n xs (k+1) W from ⟨D2,_,h2,by omega,(hs.trans (LStep.below hb1)).trans hs2⟩)
   have HKE:=fun (W:World) (D2:Nat->Prop) (hs2:LStep ((wr.alloc (.cells #[.string x.1,.int .i64 x.2] 94)).drew) W l p L D1 L D2)=>jY (hs2.far.blk (kE.later (Zk _ 1)) (fun ho=>(h1.later hb1).own_ty ho (kE.later (Zk _ 1)) (by decide)));have hk2:(k:Int)<xs.length:=by omega
   obtain ⟨d0,d1,_,_⟩:=Za (h1.later hb1).blk;obtain ⟨f0,f1,_,_⟩:=Za kE;clear h1 hs hn1 hx hzx hb1 kE hm2 hsz;go_wp2_with fail;have S0:((wr.alloc (.cells #[.string x.1,.int .i64 x.2] 94)).drew).cell? ⟨l,1,none⟩=some (.pointer (some ⟨q,0,none⟩))/\((wr.alloc (.cells #[.string x.1,.int .i64 x.2] 94)).drew).cell? ⟨wr.heap.size,0,none⟩=some (.string x.1):=⟨d1,f0⟩;clear d0 d1 f0 f1 g0 g1
   go_region_held (fun W=>W.cell? ⟨l,1,none⟩=some (.pointer (some ⟨q,0,none⟩))/\W.cell? ⟨wr.heap.size,0,none⟩=some (.string x.1)) (first|exact S0|exact S1)
    (first
      | (go_at_call 299;refine HST.out.mono ?_;rintro e w2 ⟨⟨bb,rfl⟩,D2,h2,hs2⟩
         obtain ⟨c0,c1,_,_⟩:=Za h2.blk;obtain ⟨f0,f1,_,_⟩:=Za (HKE w2 D2 hs2).out;have S1:w2.cell? ⟨l,1,none⟩=some (.pointer (some ⟨q,0,none⟩))/\w2.cell? ⟨wr.heap.size,0,none⟩=some (.string x.1):=⟨c1,f0⟩;have HFIN:=FIN w2 D2 h2 hs2
         clear HST HKE FIN h2 hs2 c0 c1 f0 f1))
   all_goals (
    clear S1;go_wp2_with fail
    exact ⟨⟨k+1,by go_num,hlt,HFIN.out⟩,by simp [intOf];omega⟩)
  ·obtain rfl:k=xs.length:=by omega
   rw [List.take_length] at h1;have HC2:=HC wr D1 _ n1 h1;obtain ⟨e0,e1,_,_⟩:=Za h1.blk;have HS:=jY (HB.out.trans hs);clear h1 hs HC;go_wp2_with fail;refine HC2.out.mono ?_;rintro e w3 ⟨rfl,L1,he1,h3,hs3⟩;have HFIN:=jY (show ∃ D1 L1 m1 n1,L1.map en=EC/\MapOf m1 (L1.map en)/\LAt w3 l p q D1 sd L1 m1 n1/\n1.n<=n.n/\LStep w w3 l p L D L1 D1 from ⟨_,L1,_,n1,he1,by rw [he1];exact HMC.out,h3,hn1,HS.out.trans hs3⟩);clear h3 hs3 he1 HC2;go_wp2_with fail;go_ret;exact ⟨rfl,HFIN.out⟩
theorem v3q(v:Value)(xs:List En)(hsd:sd<4294967296)(hr:Row w 0 v xs)(hd:Vk xs)(hz:∀ x∈xs,x.1.size<=281474976710656)(hN:xs.length<=100000) :
 Calls Tryz.prog 91 #[.int .u32 sd,v] w fun e w'=>∃ l p q D L m n,e=.returned (.pointer (some ⟨l,0,none⟩))/\L.map en=Vr [] xs/\m=Pv (fun _=>none) xs/\LAt w' l p q D sd L m n/\n.n<=xs.length/\Bl w w'/\(∀ k,M8 l p L D k->w.heap.size<=k):=by
 have HN:=fun W=>jY (Uv W);have HD:=fun W=>jY (Dc.y2m sd W);have HR:=jY hr;have HP:=fun W l p q D n (h:LAt W l p q D sd [] (fun _=>none) n) (hr:Row W 0 v xs) (hn:n.n=0)=>jY (v0j h v xs hr hd (fun x _ hx=>by cases hx) hz (by simpa using hN) (by omega) 1 (by omega));clear hr hd hz hN
 go_enter Tryz.func91,Tryz.ntmps91
 go_wp2_with fail;refine (HN _).out.mono ?_;rintro e w1 ⟨rfl,hb1,hl1⟩;go_wp2_with fail;refine (HD _).out.mono ?_;rintro e w2 ⟨q,rfl,hi,hb2⟩;have hz1:=hb1.size;have hz2:=hb2.size;have hb3:=Z0 w2 (.cells #[.pointer (some ⟨w.heap.size,0,none⟩),.pointer (some ⟨q,0,none⟩)] 219)
 have h3:LAt (w2.alloc (.cells #[.pointer (some ⟨w.heap.size,0,none⟩),.pointer (some ⟨q,0,none⟩)] 219)) w2.heap.size w.heap.size q (Dc.fresh Dc.tyI w1 w2) sd [] (fun _=>none) ⟨4,0,0,0⟩ :=
  ⟨Blk.new _ _ _,(hl1.later hb2).later hb3,hi.later hb3,hsd⟩
 have hbw:=(hb1.trans (hb2.mono hz1)).trans (hb3.mono (by omega));have HP3:=HP _ _ _ _ _ _ h3 (HR.out.later hbw) rfl;have HBW:=jY hbw
 have HOW:=jY (show ∀ k,M8 w2.heap.size w.heap.size [] (Dc.fresh Dc.tyI w1 w2) k->w.heap.size<=k from fun k hk=>by
  rcases hk with rfl|hk|hk
  ·omega
  ·obtain ⟨x,hx,rfl⟩:=hk;simp at hx;subst hx;exact lAd _
  ·rcases hk.1 with h|h
   ·exact h.elim
   ·omega)
 clear hb1 hb2 hb3 hl1 hi hz1 hz2 h3 hbw HP HN HD HR;go_wp2_with fail;refine HP3.out.mono ?_;rintro e w4 ⟨rfl,⟨D1,L1,n1,h4,he4,hn4,hs4⟩⟩;rw [List.take_length] at h4 he4
 have HFIN:=jY (show ∃ l p q D L m n,Ending.returned (.pointer (some ⟨w2.heap.size,0,none⟩))=.returned (.pointer (some ⟨l,0,none⟩))/\L.map en=Vr [] xs/\m=Pv (fun _=>none) xs/\LAt w4 l p q D sd L m n/\n.n<=xs.length/\Bl w w4/\(∀ k,M8 l p L D k->w.heap.size<=k) from
  ⟨_,_,q,D1,L1,_,n1,rfl,he4,rfl,h4,by simpa using hn4,HBW.out.trans (hs4.far.below HOW.out HBW.out.size),fun k hk=>by
    rcases hs4.new k hk with h|h
    ·exact HOW.out k h
    ·exact lAe HBW.out.size h⟩)
 clear h4 he4 hn4 hs4 HP3 HBW HOW;go_wp2_with fail;go_ret;exact HFIN.out
theorem Ao(name:String)(f:FuncId)(k:Nat)(W:World)(l p:Nat)(h:W.cell? ⟨l,0,none⟩=some (.pointer (some ⟨p,0,none⟩)))
 (hm:((Tryz.prog.info? 160).bind fun i=>(i.methods.find? (·.name==name)).map fun m=>(m.path.toList,m.func))=some ([{ struct:=219,index:=0,deref:=true }],some (f,true))) :
 (method (k+1) 160 (.pointer (some ⟨l,0,none⟩)) name).run Tryz.prog W=.ok (f,.pointer (some ⟨p,0,none⟩)) W:=by
 cases hi:Tryz.prog.info? 160 with
 | none=>rw [hi] at hm;cases hm
 | some i =>
   rw [hi] at hm
   cases hf:i.methods.find? (·.name==name) with
   | none=>rw [Option.bind_some,hf] at hm;cases hm
   | some mm =>
     rw [Option.bind_some,hf] at hm;simp only [Option.map_some,Option.some.injEq,Prod.mk.injEq] at hm;have hu:=run_underlying (P:=Tryz.prog) Tryz.underlying219;have hu2:=run_underlying (P:=Tryz.prog) Tryz.underlying214;unfold method;simp [typeInfo,hi,hf,hm.1,hm.2,follow,hu,hu2,receiverAt,Place.get,go_sem,h]
theorem Am{W:World}{l p:Nat}(h:W.cell? ⟨l,0,none⟩=some (.pointer (some ⟨p,0,none⟩))) :
 (method 493 160 (.pointer (some ⟨l, 0, none⟩)) "Len").run Tryz.prog W = .ok (292, .pointer (some ⟨p, 0, none⟩)) W := Ao "Len" 292 492 W l p h (by kernel_rfl)
theorem An{W:World}{l p:Nat}(h:W.cell? ⟨l,0,none⟩=some (.pointer (some ⟨p,0,none⟩))) :
 (method 493 160 (.pointer (some ⟨l, 0, none⟩)) "Range").run Tryz.prog W = .ok (293, .pointer (some ⟨p, 0, none⟩)) W := Ao "Range" 293 492 W l p h (by kernel_rfl)
theorem z8c{W:World}{l p:Nat}(h:W.cell? ⟨l,0,none⟩=some (.pointer (some ⟨p,0,none⟩))) :
 (method 493 160 (.pointer (some ⟨l, 0, none⟩)) "Delete").run Tryz.prog W = .ok (291, .pointer (some ⟨p, 0, none⟩)) W := Ao "Delete" 291 492 W l p h (by kernel_rfl)
theorem Zm{W:World}{b:Nat}{t:TypeId}{c0 c1 c2 c3:Value}(h:Blk W b t #[c0,c1,c2,c3]):(W.cell? ⟨b,0,none⟩=some c0/\W.cell? ⟨b,1,none⟩=some c1/\W.cell? ⟨b,2,none⟩=some c2/\W.cell? ⟨b,3,none⟩=some c3)/\W.frozen? ⟨b,0,none⟩=false :=
 ⟨⟨h.cell 0,h.cell 1,h.cell 2,h.cell 3⟩,h.free 0⟩
abbrev Br (form:Value) (le lm:Int) (sd:Nat):Array Value:=#[form,.int .i64 le,.int .i64 lm,.int .u32 sd]
structure Good (le lm:Int) (c:Nat) (E:List En):Prop where
 le:0<=le/\le<=200
 lm:0<=lm/\lm<=64
 srt:O6 E
 dist:Vk E
 each:∀ e∈E,e.1.size<=64/\Pk.Ya e.2
 len:E.length<=c
 cap:c<=10000
structure PSet (W:World) (s b:Nat) (le lm:Int) (sd c:Nat) (E:List En):Prop where
 blk:Blk W s 114 (Br (.iface 148 (.pointer (some ⟨b,0,none⟩))) le lm sd)
 pk:PackAt W b E
 few:(E.length:Int)<=le
 good:Good le lm c E
 sd:sd<4294967296
structure LSet (W:World) (s l p q:Nat) (D:Nat->Prop) (L:List Nd) (m:ByteArray->Option Int) (n:Dc.Sh) (le lm:Int) (sd c:Nat) (E:List En):Prop where
 blk:Blk W s 114 (Br (.iface 160 (.pointer (some ⟨l,0,none⟩))) le lm sd)
 li:LAt W l p q D sd L m n
 en:L.map en=E
 map:MapOf m E
 n:n.n<=c
 good:Good le lm c E
variable {w w' w1 w2:World} {s b l p q sd c:Nat} {D:Nat->Prop} {L:List Nd} {m:ByteArray->Option Int} {n:Dc.Sh} {le lm:Int} {E:List En}
theorem PSet.later(h:PSet w s b le lm sd c E)(hb:Bl w w'):PSet w' s b le lm sd c E:=⟨h.blk.later hb,h.pk.later hb,h.few,h.good,h.sd⟩
theorem LSet.later(h:LSet w s l p q D L m n le lm sd c E)(hb:Bl w w'):LSet w' s l p q D L m n le lm sd c E:=⟨h.blk.later hb,h.li.later hb,h.en,h.map,h.n,h.good⟩
theorem LSet.len(h:LSet w s l p q D L m n le lm sd c E):L.length=E.length:=by rw [<- h.en,List.length_map]
theorem LSet.lenN(h:LSet w s l p q D L m n le lm sd c E):L.length<=100000:=by
 have h1:=h.len;have h2:=h.good.len;have h3:=h.good.cap;omega
theorem Ch{v:Value}(hb:Blk w s 114 (Br v le lm sd)):Calls Tryz.prog 49 #[.pointer (some ⟨s,0,none⟩)] w fun e w'=>e=.returned v/\w'=w:=by
 obtain ⟨⟨e0,_⟩,_⟩:=Zm hb;clear hb
 go_enter Tryz.func49,Tryz.ntmps49
 go_wp2;go_ret;exact ⟨rfl,rfl⟩
theorem v2k(h:PSet w s b le lm sd c E):Calls Tryz.prog 19 #[.pointer (some ⟨s,0,none⟩)] w fun e w'=>e=.returned (.int .i64 E.length)/\Bl w w':=by
 have HN:=jY (Ch h.blk);have HL:=jY (z2p h.pk);clear h
 go_enter Tryz.func19,Tryz.ntmps19
 go_wp2_with fail;refine HN.out.mono ?_;rintro e w1 ⟨rfl,rfl⟩;go_wp2_with fail;refine HL.out.mono ?_;rintro e w1 ⟨rfl,hb⟩;go_wp2_with fail;go_ret;exact ⟨rfl,hb⟩
theorem v1z(h:LSet w s l p q D L m n le lm sd c E):Calls Tryz.prog 19 #[.pointer (some ⟨s,0,none⟩)] w fun e w'=>e=.returned (.int .i64 E.length)/\Bl w w':=by
 have HN:=jY (Ch h.blk);have HL:=jY (I2 p L rfl h.li.ls.sk);obtain ⟨e0,e1,_,_⟩:=Za h.li.blk;rw [<- h.len];have hme:=Am e0;clear h e0 e1
 go_enter Tryz.func19,Tryz.ntmps19
 go_wp2_with fail;refine HN.out.mono ?_;rintro e w1 ⟨rfl,rfl⟩;go_wp2_with fail;refine HL.out.mono ?_;rintro e w1 ⟨rfl,rfl⟩;go_wp2_with fail;go_ret;exact ⟨rfl,Below.refl _ _⟩
variable {w w' w1 w2:World} {s b l p q sd c:Nat} {D:Nat->Prop} {L:List Nd} {m:ByteArray->Option Int} {n:Dc.Sh} {le lm:Int} {E:List En}
theorem x1j(u:Value)(W:World):(Instr.typeAssert (.iface 148 u) 96 148 true).run Tryz.prog W=.ok (.tuple #[u,.bool true]) W:=by kernel_rfl
theorem x1i(u:Value)(W:World):(Instr.typeAssert (.iface 160 u) 96 148 true).run Tryz.prog W=.ok (.tuple #[.pointer none,.bool false]) W:=by kernel_rfl
theorem y6f(hb:Blk w s 114 (Br (.iface 148 (.pointer (some ⟨b,0,none⟩))) le lm sd)):Calls Tryz.prog 89 #[.pointer (some ⟨s,0,none⟩)] w fun e w'=>e=.returned (.tuple #[.pointer (some ⟨b,0,none⟩),.bool true])/\w'=w:=by
 obtain ⟨⟨e0,_⟩,_⟩:=Zm hb;have ha:=x1j;clear hb
 go_enter Tryz.func89,Tryz.ntmps89
 go_wp2;go_ret2;exact ⟨rfl,rfl⟩
theorem x9q(hb:Blk w s 114 (Br (.iface 160 (.pointer (some ⟨l,0,none⟩))) le lm sd)):Calls Tryz.prog 89 #[.pointer (some ⟨s,0,none⟩)] w fun e w'=>e=.returned (.tuple #[.pointer none,.bool false])/\w'=w:=by
 obtain ⟨⟨e0,_⟩,_⟩:=Zm hb;have ha:=x1i;clear hb
 go_enter Tryz.func89,Tryz.ntmps89
 go_wp2;go_ret2;exact ⟨rfl,rfl⟩
theorem x7i(h:PSet w s b le lm sd c E):Calls Tryz.prog 42 #[.pointer (some ⟨s,0,none⟩)] w fun e w'=>e=.returned (.int .i64 (Pk.Y9 E).size)/\w'=w:=by
 obtain ⟨⟨e0,_⟩,_⟩:=Zm h.blk;have HB:=jY (x9b h.pk);clear h
 go_enter Tryz.func42,Tryz.ntmps42
 go_wp2_with fail;refine HB.out.mono ?_;rintro e w1 ⟨rfl,rfl⟩;go_wp2_with fail;go_ret;exact ⟨rfl,rfl⟩
theorem y1m(h:PSet w s b le lm sd c E)(m:ByteArray):Calls Tryz.prog 60 #[.pointer (some ⟨s,0,none⟩),.string m] w fun e w'=>e=.returned (.bool false)/\Bl w w':=by
 obtain ⟨⟨e0,_⟩,_⟩:=Zm h.blk;have HL:=jY (z2p h.pk);have h1:(E.length:Int)<400:=by have:=h.pk.ok.many;omega
 clear h
 go_enter Tryz.func60,Tryz.ntmps60
 go_wp2_with fail;refine HL.out.mono ?_;rintro e w1 ⟨rfl,hb⟩;go_wp2_with fail;go_ret;exact ⟨rfl,hb⟩
theorem x2h(h:LSet w s l p q D L m n le lm sd c E)(h4:E.length<400)(k:ByteArray):Calls Tryz.prog 60 #[.pointer (some ⟨s,0,none⟩),.string k] w fun e w'=>e=.returned (.bool false)/\Bl w w':=by
 obtain ⟨⟨e0,_⟩,_⟩:=Zm h.blk;have HL:=jY (I2 p L rfl h.li.ls.sk);rw [h.len] at HL;have hme:=Am (Za h.li.blk).1;have h1:(E.length:Int)<400:=by omega
 clear h
 go_enter Tryz.func60,Tryz.ntmps60
 go_wp2_with fail;refine HL.out.mono ?_;rintro e w1 ⟨rfl,rfl⟩;go_wp2_with fail;go_ret;exact ⟨rfl,Below.refl _ _⟩
theorem v3m(hb:Blk w s 114 (Br (.iface 160 (.pointer (some ⟨l,0,none⟩))) le lm sd))(k:ByteArray):Calls Tryz.prog 61 #[.pointer (some ⟨s,0,none⟩),.string k] w fun e w'=>e=.returned (.tuple #[])/\Bl w w':=by
 have HS:=jY (x9q hb);clear hb
 go_enter Tryz.func61,Tryz.ntmps61
 go_wp2_with (go_at_call 89;refine HS.out.mono ?_;rintro e w1 ⟨rfl,rfl⟩)
 go_quiet (fail)
 go_wp2_with fail;go_returns;exact ⟨rfl,Zk _ _⟩
theorem x4z{xs:List En}:∀ {m:ByteArray->Option Int} {E:List En},MapOf m E->Vk xs->(∀ x∈xs,∀ y∈E,y.1≠x.1)->MapOf (Pv m xs) (Vr E xs):=by
 induction xs with
 | nil=>intro m E h _ _;exact h
 | cons x xs ih =>
   intro m E h hd hno;have hd2:=List.pairwise_cons.1 hd;show MapOf (Pv (z1d m x.1 x.2) xs) (Vr (Vy E x.1 x.2) xs);have h1:=h.put x.1 x.2;unfold Vd at h1;rw [Ve fun y hy=>hno x (List.mem_cons_self ..) y hy] at h1;refine ih h1 hd2.2 fun z hz y hy=>?_;rcases Fb.1 hy with rfl|hy
   ·exact hd2.1 z hz
   ·exact hno z (List.mem_cons_of_mem _ hz) y hy
theorem x6n{α:Type}(P:α->Bool):∀ l:List α,(∀ y∈l,P y=true)->l.takeWhile P=l
 | [],_=>rfl
 | x :: l,h=>by rw [List.takeWhile_cons_of_pos (h x (List.mem_cons_self ..)),x6n P l fun y hy=>h y (List.mem_cons_of_mem _ hy)]
theorem z1c{E:List En}(hs:O6 E):∀ k,k<=E.length->Vr [] (E.take k)=E.take k:=by
 intro k
 induction k with
 | zero=>intro _;simp [Vr]
 | succ k ih =>
   intro hk;have hx:E[k]?=some E[k]:=lAa (by omega);rw [Cl [] E k _ hx,ih (by omega)]
   have hp:Vq (E.take k) E[k].1 E[k].2=k:=by
    unfold Vq
    have:∀ y∈E.take k,Yc y.1 y.2 E[k].1 E[k].2=true:=fun y hy=>by
     obtain ⟨i,hi⟩:=List.mem_iff_getElem?.1 hy;have hil:=(lAb.1 hi).1;rw [List.length_take] at hil;rw [List.getElem?_take_of_lt (by omega)] at hi;obtain ⟨h1,h2⟩:=lAb.1 hi
     have:=List.pairwise_iff_getElem.1 hs i k h1 (by omega) (by omega)
     rw [h2] at this;exact this
    rw [x6n _ _ this,List.length_take];omega
   unfold Vy;rw [hp,List.take_take,Nat.min_self,List.drop_of_length_le (by simp;omega),lAf (by omega)]
theorem Ck{E:List En}(hs:O6 E):Vr [] E=E:=by
 have:=z1c hs E.length (lAd _)
 rwa [List.take_length] at this
theorem y9n{W:World}{s o o':Nat}{v u:Value}(h:W.cell? ⟨s,o,none⟩=some u)(hne:o≠o'):(W.setCell ⟨s,o',none⟩ v).cell? ⟨s,o,none⟩=some u:=by
 rw [World.cell?_setCell_other _ _ _ _ (fun e=>hne (by injection e with _ e2 _;exact e2.symm))];exact h
variable {w w' w1 w2:World} {s b l p q sd c:Nat} {D:Nat->Prop} {L:List Nd} {m:ByteArray->Option Int} {n:Dc.Sh} {le lm:Int} {E:List En}
theorem v1j(h:PSet w s b le lm sd c E)(k:ByteArray)(h1:(E.length:Int)<le)(h2:(k.size:Int)<=lm):Calls Tryz.prog 61 #[.pointer (some ⟨s,0,none⟩),.string k] w fun e w'=>e=.returned (.tuple #[])/\Bl w w':=by
 have HS:=jY (y6f h.blk);have HL:=fun W (hb:Bl w W)=>jY (z2p (h.pk.later hb));have HSW:=jY (fun W (hb:Bl w W)=>show W.cell? ⟨s,1,none⟩=some (.int .i64 le)/\W.cell? ⟨s,2,none⟩=some (.int .i64 lm) from ⟨(Zm (h.blk.later hb)).1.2.1,(Zm (h.blk.later hb)).1.2.2.1⟩);have g1:decide (le<=(E.length:Int))=false:=decide_eq_false (by omega);have g2:decide (lm<(k.size:Int))=false:=decide_eq_false (by omega);clear h h1 h2
 go_enter Tryz.func61,Tryz.ntmps61
 go_wp2_with (go_at_call 89;refine HS.out.mono ?_;rintro e w1 ⟨rfl,rfl⟩)
 have HB1:=jY (Zk w1 1);have HL1:=HL w1.drew HB1.out;have S0:=HSW.out w1.drew HB1.out;clear HL HS
 go_region_held (fun W=>W.cell? ⟨s,1,none⟩=some (.int .i64 le)/\W.cell? ⟨s,2,none⟩=some (.int .i64 lm)) (first|exact S0|exact S1)
  (first
    | (go_at_call 90;refine HL1.out.mono ?_;rintro e w2 ⟨rfl,hb⟩
       have HB2:=jY (HB1.out.trans (hb.mono HB1.out.size));have S1:=HSW.out _ HB2.out
       clear hb HL1))
 all_goals (
  clear S1;go_wp2_with fail;go_returns
  exact ⟨rfl,HB2.out⟩)
theorem x8a(h:PSet w s b le lm sd c E)(k:ByteArray)(h1:le<=(E.length:Int)\/lm<(k.size:Int)):Calls Tryz.prog 61 #[.pointer (some ⟨s,0,none⟩),.string k] w fun e w'=>e=.returned (.tuple #[]) /\
 ∃ l p q D L m n,LSet w' s l p q D L m n le lm sd c E/\(∀ k,M8 l p L D k->w.heap.size<=k)/\Far (fun k=>k=s) w w':=by
 have HS:=jY (y6f h.blk);have HL:=fun W (hb:Bl w W)=>jY (z2p (h.pk.later hb));have HE:=fun W (hb:Bl w W)=>jY (Dz (h.pk.later hb));have HSW:=jY (fun W (hb:Bl w W)=>show W.cell? ⟨s,1,none⟩=some (.int .i64 le)/\W.cell? ⟨s,2,none⟩=some (.int .i64 lm) from ⟨(Zm (h.blk.later hb)).1.2.1,(Zm (h.blk.later hb)).1.2.2.1⟩);have HSV:=jY (fun W (hb:Bl w W)=>show W.cell? ⟨s,3,none⟩=some (.int .u32 sd)/\W.frozen? ⟨s,0,none⟩=false from ⟨(Zm (h.blk.later hb)).1.2.2.2,(Zm (h.blk.later hb)).2⟩);have HBK:=jY (fun W (hb:Bl w W)=>h.blk.later hb);have hEl:=h.good.len;have hEc:=h.good.cap;have HNEW:=fun W v (hr:Row W 0 v E)=>jY (v3q (w:=W) (sd:=sd) v E h.sd hr h.good.dist (fun x hx=>by have:=(h.good.each x hx).1;omega) (by omega));have HG:=jY h.good
 have HME:=jY (show MapOf (Pv (fun _=>none) E) E by
  have:=x4z (xs:=E) (m:=fun _=>none) (E:=[]) (fun k v=>by simp) h.good.dist (fun _ _ y hy=>by cases hy)
  rwa [Ck h.good.srt] at this)
 have HPE:=jY (Ck h.good.srt);have hsz:=h.blk.lt
 have hcase:(decide (le<=(E.length:Int))=true)\/(decide (le<=(E.length:Int))=false/\decide (lm<(k.size:Int))=true):=by
  by_cases h3:le<=(E.length:Int)
  ·exact .inl (decide_eq_true h3)
  ·exact .inr ⟨decide_eq_false h3,decide_eq_true (by omega)⟩
 clear h h1
 go_enter Tryz.func61,Tryz.ntmps61
 go_wp2_with (go_at_call 89;refine HS.out.mono ?_;rintro e w1 ⟨rfl,rfl⟩)
 clear HS hEl hEc;have q1:=fun y:Ext w1=>(HSW.out y.w y.ok).1;have q2:=fun y:Ext w1=>(HSW.out y.w y.ok).2;have HLE:=fun y:Ext w1=>HL y.w y.ok;have hne:=Ext.one w1;clear HSW HL;rcases hcase with g1|⟨g1,g2⟩
 all_goals (
  refine Zd (w1:=w1) (by kernel_rfl) (by kernel_rfl) (Below.refl _ _) ?_
  repeat go_big_quiet_step ((go_at_call 90;exact Ext.call _ (HLE _).out))
  refine wpQuiet_nil ?_;rintro _ ⟨y,rfl⟩;have HB2:=jY y.ok;clear q1 q2 HLE hne;obtain ⟨w2,hok⟩:=y
  (
   go_wp2_with fail;have HB3:=jY (HB2.out.trans ((Zk w2 1).mono HB2.out.size));have HE1:=HE w2.drew HB3.out;have S2:=HSV.out w2.drew HB3.out
   go_region_held (fun W=>W.cell? ⟨s,3,none⟩=some (.int .u32 sd)/\W.frozen? ⟨s,0,none⟩=false) (first|exact S2|exact S3|exact S4|exact S5)
    (first
      | (go_at_call 92;refine HE1.out.mono ?_;rintro e w3 ⟨r,rfl,ho,hb⟩
         have HB4:=jY (HB3.out.trans (hb.mono HB3.out.size));have S3:=HSV.out _ HB4.out;have HN1:=HNEW w3 r ((Mp ho).mono (Nat.zero_le _))
         clear hb HE1 ho HNEW)
      | (go_at_call 91;refine HN1.out.mono ?_;rintro e w4 ⟨l,p,q,D,L,m,n,rfl,he4,hm4,h4,hn4,hb,hown⟩
         have HB5:=jY (HB4.out.trans (hb.mono HB4.out.size));have S4:=HSV.out _ HB5.out;have G0:=(Zm (HBK.out _ HB5.out)).1.1;have G1:=S4.2
         have S5:(w4.setCell ⟨s,0,none⟩ (.iface 160 (.pointer (some ⟨l,0,none⟩)))).cell? ⟨s,3,none⟩=some (.int .u32 sd)/\(w4.setCell ⟨s,0,none⟩ (.iface 160 (.pointer (some ⟨l,0,none⟩)))).frozen? ⟨s,0,none⟩=false:=by
          have hk:=(HBK.out _ HB5.out).set 0 (.iface 160 (.pointer (some ⟨l,0,none⟩)));exact ⟨y9n S4.1 (by decide),hk.free 0⟩
         have HFIN:=jY (show ∃ l' p q D L m n,LSet (w4.setCell ⟨s,0,none⟩ (.iface 160 (.pointer (some ⟨l,0,none⟩)))) s l' p q D L m n le lm sd c E/\(∀ k,M8 l' p L D k->w1.heap.size<=k)/\Far (fun k=>k=s) w1 (w4.setCell ⟨s,0,none⟩ (.iface 160 (.pointer (some ⟨l,0,none⟩)))) from by
          have hk:=(HBK.out _ HB5.out).set 0 (.iface 160 (.pointer (some ⟨l,0,none⟩)));have hge:∀ k,M8 l p L D k->w1.heap.size<=k:=fun k hk=>lAe HB4.out.size (hown k hk);have hfs:=Gu (S:=fun k=>k=s) w4 s 0 (.iface 160 (.pointer (some ⟨l,0,none⟩))) rfl
          exact ⟨l,p,q,D,L,m,n,⟨hk,h4.far hfs (fun k hk2 e=>by have:=hge k hk2;omega),he4.trans HPE.out,by rw [hm4];exact HME.out,lAe hn4 HG.out.len,HG.out⟩,hge,(Far.of_below HB5.out).trans hfs (fun k hk=>.inl hk)⟩)
         clear he4 hm4 h4 hn4 hb hown HN1))
   all_goals (
    clear S5 G0 G1;go_wp2_with fail;go_returns
    exact ⟨rfl,HFIN.out⟩)))
variable {w w' w1 w2:World} {s b l p q sd c:Nat} {D D1:Nat->Prop} {L L1:List Nd} {m:ByteArray->Option Int} {n:Dc.Sh} {le lm:Int} {E:List En}
theorem x4v(h:PSet w s b le lm sd c E)(f t:Int):Calls Tryz.prog 18 #[.pointer (some ⟨s,0,none⟩),.int .i64 f,.int .i64 t] w fun e w'=>∃ r,e=.returned r/\Row w' w.heap.size r (Ua E f t)/\Bl w w':=by
 have HN:=jY (Ch h.blk);have HR:=jY (z5g h.pk f t);clear h
 go_enter Tryz.func18,Tryz.ntmps18
 go_wp2_with fail;refine HN.out.mono ?_;rintro e w1 ⟨rfl,rfl⟩;go_wp2_with fail;refine HR.out.mono ?_;rintro e w1 ⟨r,rfl,hr,hb⟩;go_wp2_with fail;go_ret;exact ⟨_,rfl,hr,hb⟩
theorem x3k(h:LSet w s l p q D L m n le lm sd c E)(f t:Int):Calls Tryz.prog 18 #[.pointer (some ⟨s,0,none⟩),.int .i64 f,.int .i64 t] w fun e w'=>∃ r,e=.returned r/\Row w' w.heap.size r (Ua E f t)/\Bl w w':=by
 have HN:=jY (Ch h.blk);have HR:=jY (z4r h.li.ls h.lenN f t);rw [h.en] at HR;have hme:=An (Za h.li.blk).1;clear h
 go_enter Tryz.func18,Tryz.ntmps18
 go_wp2_with fail;refine HN.out.mono ?_;rintro e w1 ⟨rfl,rfl⟩;go_wp2_with fail;refine HR.out.mono ?_;rintro e w1 ⟨r,rfl,hr,hb⟩;go_wp2_with fail;go_ret;exact ⟨_,rfl,hr,hb⟩
theorem x9h(h:PSet w s b le lm sd c E)(k:ByteArray):Calls Tryz.prog 66 #[.pointer (some ⟨s,0,none⟩),.string k] w fun e w'=>e=.returned (.tuple #[.int .i64 ((whE E k).getD 0:Nat),.bool (whE E k).isSome])/\Bl w w':=by
 have HN:=jY (Ch h.blk);have HR:=jY (v2i h.pk k);clear h;generalize (whE E k).isSome=bb at *;generalize (whE E k).getD 0=ii at *
 go_enter Tryz.func66,Tryz.ntmps66
 go_wp2_with fail;refine HN.out.mono ?_;rintro e w1 ⟨rfl,rfl⟩;go_wp2_with fail;refine HR.out.mono ?_;rintro e w1 ⟨rfl,hb⟩;go_wp2_with fail;go_ret2;exact ⟨rfl,hb⟩
theorem LSet.dict(h:LSet w s l p q D L m n le lm sd c E){n2:Dc.Sh}(hn:Dc.IsNow D w q sd m n2 w')(hc:n2.n<=c):LSet w' s l p q (Dc.V3 Dc.tyI D w w') L m n2 le lm sd c E :=
 ⟨(y2r hn.2).blk h.blk (fun hk=>by
   obtain ⟨t,c,ht,hb⟩:=h.li.d_ty hk
   have:=hb.ty h.blk
   rcases ht with rfl|rfl|rfl <;> exact absurd this (by decide)),h.li.dict hn,h.en,h.map,hc,h.good⟩
theorem z6g(n:Dc.Sh):n.step1.n=n.n:=Dc.Ic n
theorem x8p(h:LSet w s l p q D L m n le lm sd c E)(k:ByteArray)(hk:k.size<=281474976710656):Calls Tryz.prog 66 #[.pointer (some ⟨s,0,none⟩),.string k] w fun e w'=>e=.returned (.tuple #[.int .i64 ((whE E k).getD 0:Nat),.bool (whE E k).isSome]) /\
 ∃ D1 n1,LSet w' s l p q D1 L m n1 le lm sd c E/\LStep w w' l p L D L D1:=by
 have HN:=jY (Ch h.blk);have hcap:=h.good.cap;have hnn:=h.n;have HR:=jY (v1r h.li (by omega) h.lenN (h.en ▸ h.map) k hk);rw [h.en] at HR;have HF:=fun w1 (hd:Dc.IsNow D w q sd m n.step1 w1)=>jY (show ∃ D1 n1,LSet w1 s l p q D1 L m n1 le lm sd c E/\LStep w w1 l p L D L D1 from ⟨_,_,h.dict hd (by rw [z6g];exact hnn),LStep.dict hd⟩);clear h hk hcap hnn;generalize (whE E k).isSome=bb at *;generalize (whE E k).getD 0=ii at *
 go_enter Tryz.func66,Tryz.ntmps66
 go_wp2_with fail;refine HN.out.mono ?_;rintro e w1 ⟨rfl,rfl⟩;go_wp2_with fail;refine HR.out.mono ?_;rintro e w2 ⟨rfl,hd⟩;have HF2:=HF w2 hd;clear hd HF;go_wp2_with fail;go_ret2;exact ⟨rfl,HF2.out⟩
theorem Good.cut(h:Good le lm c E)(f t:Int):Good le lm c (Qa E f t) :=
 ⟨h.le,h.lm,x5y h.srt f t,y7a h.dist f t,fun e he=>h.each e (x3q he),by have:=h.len;rw [z6x];omega,h.cap⟩
theorem PSet.cut(h:PSet w s b le lm sd c E){f t:Int}(hp:PackAt w' b (Qa E f t))(hf:Far (fun k=>k=b) w w'):PSet w' s b le lm sd c (Qa E f t) :=
 ⟨hf.blk h.blk (fun e=>by subst e;exact absurd (h.blk.ty h.pk.blk) (by decide)),hp,by have:=h.few;rw [z6x];omega,h.good.cut f t,h.sd⟩
theorem v2j(h:PSet w s b le lm sd c E)(f t:Int):Calls Tryz.prog 67 #[.pointer (some ⟨s,0,none⟩),.int .i64 f,.int .i64 t] w fun e w'=>e=.returned (.int .i64 (Ua E f t).length)/\PSet w' s b le lm sd c (Qa E f t)/\Far (fun k=>k=b) w w':=by
 have HN:=jY (Ch h.blk);have HR:=jY (v3w h.pk h.good.dist f t);have HF:=fun w1 (hp:PackAt w1 b (Qa E f t)) (hf:Far (fun k=>k=b) w w1)=>jY (And.intro (h.cut hp hf) hf);clear h;generalize (Ua E f t).length=nn at *
 go_enter Tryz.func67,Tryz.ntmps67
 go_wp2_with fail;refine HN.out.mono ?_;rintro e w1 ⟨rfl,rfl⟩;go_wp2_with fail;refine HR.out.mono ?_;rintro e w2 ⟨rfl,hp,hf⟩;have HF2:=HF w2 hp hf;clear hp hf HF;go_wp2_with fail;go_ret;exact ⟨rfl,HF2.out⟩
theorem LSet.blk_step(h:LSet w s l p q D L m n le lm sd c E)(hs:LStep w w' l p L D L1 D1):Blk w' s 114 (Br (.iface 160 (.pointer (some ⟨l,0,none⟩))) le lm sd) :=
 hs.far.blk h.blk fun ho=>h.li.own_ty ho h.blk (by decide)
theorem v1y(h:LSet w s l p q D L m n le lm sd c E)(f t:Int):Calls Tryz.prog 67 #[.pointer (some ⟨s,0,none⟩),.int .i64 f,.int .i64 t] w fun e w'=>e=.returned (.int .i64 (Ua E f t).length) /\
 ∃ D1 L1 m1 n1,LSet w' s l p q D1 L1 m1 n1 le lm sd c (Qa E f t)/\LStep w w' l p L D L1 D1:=by
 have HN:=jY (Ch h.blk);have hcap:=h.good.cap;have hnn:=h.n;have HR:=jY (x3b h.li h.lenN (by omega) (fun x hx=>by have:=(h.good.each x (h.en ▸ hx)).1;omega) (h.en ▸ h.good.dist) (h.en ▸ h.map) f t);rw [h.en] at HR
 have HF:=fun w1 D1 L1 m1 n1 (he:L1.map en=Qa E f t) (hm:MapOf m1 (L1.map en)) (hl:LAt w1 l p q D1 sd L1 m1 n1) (hn:n1.n<=n.n) (hs:LStep w w1 l p L D L1 D1) =>
  jY (show ∃ D1 L1 m1 n1,LSet w1 s l p q D1 L1 m1 n1 le lm sd c (Qa E f t)/\LStep w w1 l p L D L1 D1 from ⟨D1,L1,m1,n1,⟨h.blk_step hs,hl,he,he ▸ hm,lAe hn hnn,h.good.cut f t⟩,hs⟩)
 clear h hcap hnn;generalize (Ua E f t).length=nn at *
 go_enter Tryz.func67,Tryz.ntmps67
 go_wp2_with fail;refine HN.out.mono ?_;rintro e w1 ⟨rfl,rfl⟩;go_wp2_with fail;refine HR.out.mono ?_;rintro e w2 ⟨rfl,D1,L1,m1,n1,he,hm,hl,hn,hs⟩;have HF2:=HF w2 D1 L1 m1 n1 he hm hl hn hs;clear he hm hl hn hs HF;go_wp2_with fail;go_ret;exact ⟨rfl,HF2.out⟩
theorem y6q{E:List En}(hd:Vk E){k:ByteArray}{i:Nat}(h:whE E k=some i):Qa E i (i+1:Int)=rmE E k/\(Ua E i (i+1:Int)).length=1:=by
 obtain ⟨v,hv⟩:=Uh h;have hi:=(lAb.1 hv).1;refine ⟨x7l hd hv,?_⟩;rw [P0];unfold t0 f0;omega
variable {w w' w1 w2:World} {s b l p q sd c:Nat} {D D1:Nat->Prop} {L L1:List Nd} {m:ByteArray->Option Int} {n:Dc.Sh} {le lm:Int} {E:List En}
theorem y8p(h:PSet w s b le lm sd c E)(k:ByteArray):Calls Tryz.prog 31 #[.pointer (some ⟨s,0,none⟩),.string k] w fun e w'=>e=.returned (.bool (Pp E k))/\PSet w' s b le lm sd c (rmE E k)/\Far (fun k=>k=b) w w':=by
 have HR:=jY (x9h h k);rw [O9]
 cases hq:whE E k with
 | none =>
   rw [hq] at HR;have HF:=fun w1 (hb:Bl w w1)=>jY (h.later hb);rw [Ve (V7 hq)];clear h hq
   go_enter Tryz.func31,Tryz.ntmps31
   go_wp2_with fail;refine HR.out.mono ?_;rintro e w1 ⟨rfl,hb⟩;have HB:=jY hb;clear hb;go_wp2_with fail;go_ret;exact ⟨rfl,(HF w1 HB.out).out,Far.of_below HB.out⟩
 | some i =>
   rw [hq] at HR;obtain ⟨h1,h2⟩:=y6q h.good.dist hq;have HC:=fun w1 (hb:Bl w w1)=>jY (v2j (h.later hb) i (i+1:Int));rw [h1,h2] at HC
   have hi:(i:Int)+1<=9223372036854775807:=by
    obtain ⟨v,hv⟩:=Uh hq;have h3:=(lAb.1 hv).1;have h4:=h.good.len;have h5:=h.good.cap;omega
   simp only [Option.getD_some,Option.isSome_some] at HR ⊢;clear h hq h1 h2
   go_enter Tryz.func31,Tryz.ntmps31
   go_wp2_with fail;refine HR.out.mono ?_;rintro e w1 ⟨rfl,hb⟩;have HC1:=HC w1 hb;have HB:=jY hb;clear hb HC;go_wp2_with fail;refine HC1.out.mono ?_;rintro e w2 ⟨rfl,h2,hf⟩;have HF:=jY (And.intro h2 ((show Far (fun k=>k=b) w w1 from Far.of_below HB.out).trans hf (fun k hk=>.inl hk)));clear h2 hf HC1;go_wp2_with fail;go_ret;exact ⟨rfl,HF.out⟩
theorem y7x(h:LSet w s l p q D L m n le lm sd c E)(k:ByteArray)(hk:k.size<=281474976710656):Calls Tryz.prog 31 #[.pointer (some ⟨s,0,none⟩),.string k] w fun e w'=>e=.returned (.bool (Pp E k)) /\
 ∃ D1 L1 m1 n1,LSet w' s l p q D1 L1 m1 n1 le lm sd c (rmE E k)/\LStep w w' l p L D L1 D1:=by
 have HR:=jY (x8p h k hk);rw [O9]
 cases hq:whE E k with
 | none =>
   rw [hq] at HR;rw [Ve (V7 hq)];clear h hq
   go_enter Tryz.func31,Tryz.ntmps31
   go_wp2_with fail;refine HR.out.mono ?_;rintro e w1 ⟨rfl,D1,n1,h1,hs⟩;have HF:=jY (And.intro h1 hs);clear h1 hs;go_wp2_with fail;go_ret;exact ⟨rfl,D1,L,m,n1,HF.out⟩
 | some i =>
   rw [hq] at HR;obtain ⟨h1,h2⟩:=y6q h.good.dist hq;have HC:=fun w1 D1 n1 (h1:LSet w1 s l p q D1 L m n1 le lm sd c E)=>jY (v1y h1 i (i+1:Int));rw [h1,h2] at HC
   have hi:(i:Int)+1<=9223372036854775807:=by
    obtain ⟨v,hv⟩:=Uh hq;have h3:=(lAb.1 hv).1;have h4:=h.good.len;have h5:=h.good.cap;omega
   simp only [Option.getD_some,Option.isSome_some] at HR ⊢;clear h hq h1 h2
   go_enter Tryz.func31,Tryz.ntmps31
   go_wp2_with fail;refine HR.out.mono ?_;rintro e w1 ⟨rfl,D1,n1,h1,hs⟩;have HC1:=HC w1 D1 n1 h1;have HS:=jY hs;clear h1 hs HC;go_wp2_with fail;refine HC1.out.mono ?_;rintro e w2 ⟨rfl,D2,L2,m2,n2,h2,hs2⟩;have HF:=jY (And.intro h2 (HS.out.trans hs2));clear h2 hs2 HC1;go_wp2_with fail;go_ret;exact ⟨rfl,D2,L2,m2,n2,HF.out⟩
theorem x7e(k:ByteArray)(sc lv:Int)(hbad:64<k.size\/lv<1\/32<lv)(w:World):Calls Tryz.prog 24 #[.pointer (some ⟨s,0,none⟩),.string k,.int .i64 sc,.int .i64 lv] w fun e w'=>e=.returned (.tuple #[.bool false,.int .i64 2])/\w'=w:=by
 by_cases h1:64<k.size
 ·have h2:(64:Int)<k.size:=by omega
  clear hbad h1
  go_enter Tryz.func24,Tryz.ntmps24
  go_wp2;go_ret2;exact ⟨rfl,rfl⟩
 ·have h2:¬ (64:Int)<k.size:=by omega
  by_cases h3:lv<1
  ·clear hbad h1
   go_enter Tryz.func24,Tryz.ntmps24
   go_wp2;go_ret2;exact ⟨rfl,rfl⟩
  ·have h4:32<lv:=by omega
   clear hbad h1
   go_enter Tryz.func24,Tryz.ntmps24
   go_wp2;go_ret2;exact ⟨rfl,rfl⟩
theorem z5z{E:List En}(hv:P4 E)(k:ByteArray):match whE E k with
 | none=>Pk.Ke (Pk.Y9 E) (Pk.Xw E k)=((⟨#[]⟩,0),2)
 | some i=>∃ v,E[i]?=some (k,v)/\Pk.Ke (Pk.Y9 E) (Pk.Xw E k)=((k,v),0):=by
 rw [z6p hv,z0r]
 cases h:whE E k with
 | none=>simp
 | some i =>
   obtain ⟨v,hx⟩:=Uh h;have hi:=(lAb.1 hx).1;refine ⟨v,hx,?_⟩;have h1:¬ ((i:Int)<0\/(E.length:Int)<=i):=by omega
   simp only [if_neg h1,Int.toNat_natCast,List.getD_eq_getElem?_getD,hx,Option.getD_some]
end Go.Proofs.YtcklcmafohlflaaGreatDoor

/- Texts of one kind in one: ZLPut, ZLCut, ZMeth, ZSet, ZFit, ZFitP, ZOps, ZAdd, ZAdds. -/
import Derived.Test.YtmehfohpjigmmaaGreatDoorQPkMake18
set_option maxRecDepth 200000
set_option maxHeartbeats 8000000
namespace Go.Proofs.YtmehfohpjigmmaaGreatDoor
open Zc (Ent Ext KeepC Y5 Z7 Z9 Yw Y1 Za Zl Ya Zp Z6 Zo Z0 Zf)
open Go.RowKit Go.Shelf Sk
attribute [local go_sem] Oper.semAt_some
variable {w w' w1 w2:World} {l p q sd:Nat} {D D1 D2:Nat->Prop} {L L1 L2:List Nd} {m:ByteArray->Option Int} {n:Dc.Sh}
structure LStep (w w':World) (l p:Nat) (L:List Nd) (D:Nat->Prop) (L':List Nd) (D':Nat->Prop):Prop where
 far:Far (Ug l p L D) w w'
 new:∀ k,Ug l p L' D' k->Ug l p L D k\/w.heap.size<=k
theorem LStep.refl:LStep w w l p L D L D:=⟨Far.refl _ _,fun _ h=>.inl h⟩
theorem LStep.trans(h:LStep w w1 l p L D L1 D1)(g:LStep w1 w2 l p L1 D1 L2 D2):LStep w w2 l p L D L2 D2 :=
 ⟨h.far.trans g.far h.new,fun k hk=>by
   rcases g.new k hk with h1|h1
   ·exact h.new k h1
   ·exact .inr (Nat.le_trans h.far.size h1)⟩
theorem LStep.below(hb:Bl w w1):LStep w w1 l p L D L D:=⟨Far.of_below hb,fun _ h=>.inl h⟩
theorem LStep.dict{m2:ByteArray->Option Int}{n2:Dc.Sh}(hn:Dc.IsNow D w q sd m2 n2 w'):LStep w w' l p L D L (Dc.Xe Dc.tyI D w w') :=
 ⟨(z0t hn.2).mono fun _ h=>.inr (.inr h),fun k hk=>by
   rcases hk with h|h|h
   ·exact .inl (.inl h)
   ·exact .inl (.inr (.inl h))
   ·rcases h.1 with h|h
    ·exact .inl (.inr (.inr h))
    ·exact .inr h⟩
theorem y0s{x:Nd}{k:Nat}(h:isB (hd p :: Yi L x) k):k=x.b\/isB (hd p :: L) k:=by
 obtain ⟨y,hy,rfl⟩:=h;rcases List.mem_cons.1 hy with rfl|hy
 ·exact .inr ⟨_,List.mem_cons_self ..,rfl⟩
 ·unfold Yi at hy;rcases List.mem_append.1 hy with hy|hy
  ·exact .inr ⟨y,List.mem_cons_of_mem _ (List.mem_of_mem_take hy),rfl⟩
  ·rcases List.mem_cons.1 hy with rfl|hy
   ·exact .inl rfl
   ·exact .inr ⟨y,List.mem_cons_of_mem _ (List.mem_of_mem_drop hy),rfl⟩
theorem y0r{a b k:Nat}(h:isB (hd p :: (L.take a++L.drop b)) k):isB (hd p :: L) k:=by
 obtain ⟨y,hy,rfl⟩:=h;rcases List.mem_cons.1 hy with rfl|hy
 ·exact ⟨_,List.mem_cons_self ..,rfl⟩
 ·rcases List.mem_append.1 hy with hy|hy
  ·exact ⟨y,List.mem_cons_of_mem _ (List.mem_of_mem_take hy),rfl⟩
  ·exact ⟨y,List.mem_cons_of_mem _ (List.mem_of_mem_drop hy),rfl⟩
theorem LAt.nodes(h:LAt w l p q D sd L m n)(hf:Far (isB (hd p :: L)) w w')(hl:Ls w' p L1):LAt w' l p q D sd L1 m n :=
 ⟨hf.blk h.blk h.l_node,hl,h.is.far (z5j hf) (fun _ hk=>h.d_node hk),h.sd⟩
theorem LStep.nodes(hf:Far (isB (hd p :: L)) w w')(hn:∀ k,isB (hd p :: L1) k->isB (hd p :: L) k\/w.heap.size<=k):LStep w w' l p L D L1 D :=
 ⟨hf.mono fun _ h=>.inr (.inl h),fun k hk=>by
   rcases hk with h|h|h
   ·exact .inl (.inl h)
   ·rcases hn k h with h|h
    ·exact .inl (.inr (.inl h))
    ·exact .inr h
   ·exact .inl (.inr (.inr h))⟩
theorem z7h(h:LAt w l p q D sd L m n)(hN:L.length<=100000)(x:En)(hx:x.1.size<=281474976710656)(lv:Nat)(hl:0<lv/\lv<=32)(hno:x ∉ L.map en) :
 Calls Tryz.prog 156 #[.pointer (some ⟨p,0,none⟩),.agg #[.string x.1,.int .i64 x.2],.int .i64 lv] w fun e w'=>e=.returned (.int .i64 0)/\∃ L1,L1.map en=V9 (L.map en) x.1 x.2/\LAt w' l p q D sd L1 m n/\LStep w w' l p L D L1 D:=by
 have hh:has L x.1 x.2=false:=by
  cases h2:has L x.1 x.2 with
  | false=>rfl
  | true=>exact absurd ((z6x h.ls.srt x.1 x.2).1 h2) hno
 refine (z3u h.ls hN x.1 hx x.2 lv hl).mono fun e w' hp=>?_;obtain ⟨he,nb,hnb,hf,hls⟩:=hp.2 hh;refine ⟨he,_,y3t L ⟨nb,x.1,x.2,lv⟩,h.nodes hf hls,LStep.nodes hf fun k hk=>?_⟩;rcases y0s hk with rfl|h1
 ·exact .inr hnb
 ·exact .inl h1
theorem z7g(h:LAt w l p q D sd L m n)(hN:L.length<=100000)(hd:Uf (L.map en))(x:En)(hx:x∈L.map en) :
 Calls Tryz.prog 271 #[.pointer (some ⟨p,0,none⟩),.agg #[.string x.1,.int .i64 x.2]] w fun e w'=>e=.returned (.bool true)/\∃ L1,L1.map en=rmE (L.map en) x.1/\LAt w' l p q D sd L1 m n/\LStep w w' l p L D L1 D:=by
 have hh:has L x.1 x.2=true:=(z6x h.ls.srt x.1 x.2).2 hx;obtain ⟨i,hi⟩:=List.mem_iff_getElem?.1 hx;have hp:=Gk (z8z h.ls.srt) hi;refine (z3g h.ls hN x.1 x.2).mono fun e w' hq=>?_;obtain ⟨he,hf,hls⟩:=hq.2 hh;refine ⟨he,_,?_,h.nodes hf hls,LStep.nodes hf fun k hk=>.inl (y0r hk)⟩;rw [z0v,hp,z1e hd hi,List.map_append,List.map_take,List.map_drop]
theorem y4r(h:LAt w l p q D sd L m n)(hn:n.n+1<=1000000)(key:ByteArray)(hk:key.size<=281474976710656)(v:Int) :
 Calls Tryz.prog 157 #[.pointer (some ⟨q,0,none⟩),.string key,.int .i64 v] w fun e w'=>(∃ bb,e=.returned (.bool bb))/\∃ D1,LAt w' l p q D1 sd L (Il m key v) (n.set (m key).isSome)/\LStep w w' l p L D L D1 :=
 (Dc.z1j h.sd h.is hn key hk v).mono fun _ _ ⟨he,hi⟩=>⟨⟨_,he⟩,_,h.dict hi,LStep.dict hi⟩
def X3(E xs:List En):List En:=xs.foldl (fun E x=>V9 E x.1 x.2) E
def Vr(m:ByteArray->Option Int)(xs:List En):ByteArray->Option Int:=xs.foldl (fun m x=>Il m x.1 x.2) m
theorem Kf(E xs:List En)(k:Nat)(x:En)(h:xs[k]?=some x):X3 E (xs.take (k+1))=V9 (X3 E (xs.take k)) x.1 x.2:=by
 obtain ⟨hk,rfl⟩:=List.getElem?_eq_some_iff.1 h;unfold X3;rw [List.take_succ_eq_append_getElem hk,List.foldl_append];rfl
theorem z1b(m:ByteArray->Option Int)(xs:List En)(k:Nat)(x:En)(h:xs[k]?=some x):Vr m (xs.take (k+1))=Il (Vr m (xs.take k)) x.1 x.2:=by
 obtain ⟨hk,rfl⟩:=List.getElem?_eq_some_iff.1 h;unfold Vr;rw [List.take_succ_eq_append_getElem hk,List.foldl_append];rfl
theorem z0g{xs:List En}:∀ {E:List En} {y:En},y∈X3 E xs↔y∈E\/y∈xs:=by
 induction xs with
 | nil=>intro E y;simp [X3]
 | cons x xs ih =>
   intro E y;show y∈X3 (V9 E x.1 x.2) xs↔_;rw [ih,Oy,List.mem_cons]
   constructor
   ·rintro ((h|h)|h)
    ·exact .inr (.inl h)
    ·exact .inl h
    ·exact .inr (.inr h)
   ·rintro (h|h|h)
    ·exact .inl (.inr h)
    ·exact .inl (.inl h)
    ·exact .inr h
theorem z0y{xs:List En}:∀ {E:List En},(X3 E xs).length=E.length+xs.length:=by
 induction xs with
 | nil=>intro E;rfl
 | cons x xs ih =>
   intro E;show (X3 (V9 E x.1 x.2) xs).length=_;rw [ih,M4,List.length_cons];omega
theorem z0q{xs:List En}(hd:Uf xs){k:Nat}{x:En}(h:xs[k]?=some x):x ∉ xs.take k:=fun hm=>by
 obtain ⟨j,hj⟩:=List.mem_iff_getElem?.1 hm;have hjl:=(List.getElem?_eq_some_iff.1 hj).1;rw [List.length_take] at hjl;rw [List.getElem?_take_of_lt (by omega)] at hj;obtain ⟨h1,h2⟩:=List.getElem?_eq_some_iff.1 h;obtain ⟨h3,h4⟩:=List.getElem?_eq_some_iff.1 hj;exact List.pairwise_iff_getElem.1 hd j k h3 h1 (by omega) (by rw [h2,h4])
theorem y5a(n:Dc.Sh)(b:Bool):(n.set b).n<=n.n+1:=by rw [Dc.z2x];cases b <;> simp
structure PutAt (w:World) (l p q sd:Nat) (D:Nat->Prop) (L:List Nd) (m:ByteArray->Option Int) (n:Dc.Sh) (xs:List En) (k:Nat) (W:World):Prop where
 ex:∃ D1 L1 n1,LAt W l p q D1 sd L1 (Vr m (xs.take k)) n1/\L1.map en=X3 (L.map en) (xs.take k)/\n1.n<=n.n+k/\LStep w W l p L D L1 D1
theorem LStep.row{v:Value}{xs:List En}{n0:Nat}(h:LAt w l p q D sd L m n)(hr:Row w n0 v xs)(hs:LStep w w1 l p L D L1 D1):Row w1 n0 v xs :=
 hr.far hs.far fun _ _ _ hk ho=>h.own_ty ho hk (by decide)
theorem y2l(h:LAt w l p q D sd L m n)(v:Value)(xs:List En)(hr:Row w 0 v xs)(hd:Uf xs)(hno:∀ x∈xs,x ∉ L.map en)(hz:∀ x∈xs,x.1.size<=281474976710656)(hN:L.length+xs.length<=100000)(hn:n.n+xs.length<=999999)(lv:Nat)(hl:0<lv/\lv<=32) :
 Calls Tryz.prog 144 #[.pointer (some ⟨l,0,none⟩),.int .i64 lv,v] w fun e w'=>e=.returned (.tuple #[])/\PutAt w l p q sd D L m n xs xs.length w':=by
 obtain ⟨a,c,rfl⟩:=hr.form;have HROW:=jY (fun W L1 D1 (hs:LStep w W l p L D L1 D1)=>hs.row h hr);have H0:=jY (show PutAt w l p q sd D L m n xs 0 w from ⟨D,L,n,h,rfl,by omega,LStep.refl⟩);have HNO:=jY hno;have HZ:=jY hz;have HDI:=jY hd;clear h hr hno hz hd
 go_enter Tryz.func144,Tryz.ntmps144
 go_wp2
 go_loopw [10] (fun i wr=>∃ (k:Nat),i=.int .i64 k/\k<=xs.length/\PutAt w l p q sd D L m n xs k wr) (fun i _=>xs.length-(intOf i).toNat)
 case atStart=>exact ⟨0,rfl,by omega,H0.out⟩
 case round =>
  obtain ⟨k,rfl,hk,⟨D1,L1,n1,h1,hE,hn1,hs⟩⟩:=hrel
  by_cases hlt:k<xs.length
  ·have hx:xs[k]?=some xs[k]:=List.getElem?_eq_getElem hlt;generalize xs[k]=x at *;obtain ⟨b,off,c',e1,g0,g1⟩:=Gn (HROW.out wr _ _ hs) hx
   injection e1 with e1 _ e2
   subst e1;subst e2;have hxm:=List.mem_of_getElem? hx
   have hlen:L1.length=L.length+k:=by
    have:=congrArg List.length hE
    rw [List.length_map,z0y,List.length_map,List.length_take] at this;omega
   have hno1:x ∉ L1.map en:=by
    rw [hE,z0g];rintro (h2|h2)
    ·exact HNO.out x hxm h2
    ·exact z0q HDI.out hx h2
   have hzx:=HZ.out x hxm;have hb1:=(Z5 wr (.cells #[.string x.1,.int .i64 x.2] 107)).trans ((Zn (wr.alloc (.cells #[.string x.1,.int .i64 x.2] 107)) 1).mono (by simp));have kE:=(Blk.new wr 107 #[.string x.1,.int .i64 x.2]);have hI:=z7h (h1.later hb1) (by omega) x hzx lv hl hno1;have hE2:∀ L2:List Nd,L2.map en=V9 (L1.map en) x.1 x.2->L2.map en=X3 (L.map en) (xs.take (k+1)):=fun L2 h2=>by rw [h2,hE,Kf _ _ _ _ hx]
   have hm2:=z1b m xs k x hx;have hl1:(lv:Int)<=32:=by omega
   have HSET:=fun (W:World) (L2:List Nd) (h2:LAt W l p q D1 sd L2 (Vr m (xs.take k)) n1)=>jY (y4r h2 (by omega) x.1 hzx x.2);rw [<- hm2] at HSET;have hsz:=y5a n1 ((Vr m (xs.take k)) x.1).isSome
   have FIN:=fun (W:World) (D2:Nat->Prop) (L2:List Nd) (h2:LAt W l p q D2 sd L2 (Vr m (xs.take (k+1))) (n1.set ((Vr m (xs.take k)) x.1).isSome)) (e2:L2.map en=V9 (L1.map en) x.1 x.2) (hs2:LStep wr W l p L1 D1 L2 D2) =>
    jY (show PutAt w l p q sd D L m n xs (k+1) W from ⟨D2,L2,_,h2,hE2 L2 e2,by omega,hs.trans hs2⟩)
   have HS1:=jY (show LStep wr ((wr.alloc (.cells #[.string x.1,.int .i64 x.2] 107)).drew) l p L1 D1 L1 D1 from LStep.below hb1);have HI:=jY hI;have HKE:=fun (W:World) (L2:List Nd) (D2:Nat->Prop) (hs2:LStep ((wr.alloc (.cells #[.string x.1,.int .i64 x.2] 107)).drew) W l p L1 D1 L2 D2)=>jY (hs2.far.blk (kE.later (Zn _ 1)) (fun ho=>(h1.later hb1).own_ty ho (kE.later (Zn _ 1)) (by decide)));have hk2:(k:Int)<xs.length:=by omega
   obtain ⟨c0,c1,_,_⟩:=Zd h1.blk;obtain ⟨d0,d1,_,_⟩:=Zd (h1.later hb1).blk;obtain ⟨f0,f1,_,_⟩:=Zd kE;clear h1 hE hs hn1 hx hlen hno1 hzx hb1 kE hI hE2 hm2 hsz hxm;go_wp2_with fail;have S0:((wr.alloc (.cells #[.string x.1,.int .i64 x.2] 107)).drew).cell? ⟨l,0,none⟩=some (.pointer (some ⟨p,0,none⟩))/\((wr.alloc (.cells #[.string x.1,.int .i64 x.2] 107)).drew).cell? ⟨wr.heap.size,0,none⟩=some (.string x.1)/\((wr.alloc (.cells #[.string x.1,.int .i64 x.2] 107)).drew).cell? ⟨wr.heap.size,1,none⟩=some (.int .i64 x.2):=⟨d0,f0,f1⟩;clear c0 c1 d0 d1 f0 f1 g0 g1
   go_region_held (fun W=>W.cell? ⟨l,0,none⟩=some (.pointer (some ⟨p,0,none⟩))/\W.cell? ⟨wr.heap.size,0,none⟩=some (.string x.1)/\W.cell? ⟨wr.heap.size,1,none⟩=some (.int .i64 x.2)) (first|exact S0|exact S1)
    (first
      | (go_at_call 156;refine HI.out.mono ?_;rintro e w2 ⟨rfl,L2,e2,h2,hs2⟩
         obtain ⟨c0,c1,_,_⟩:=Zd h2.blk;obtain ⟨f0,f1,_,_⟩:=Zd (HKE w2 L2 D1 hs2).out;have S1:w2.cell? ⟨l,0,none⟩=some (.pointer (some ⟨p,0,none⟩))/\w2.cell? ⟨wr.heap.size,0,none⟩=some (.string x.1)/\w2.cell? ⟨wr.heap.size,1,none⟩=some (.int .i64 x.2):=⟨c0,f0,f1⟩;have hs3:=(HS1.out.trans hs2).trans (LStep.below (Zn w2 1));have h3:=h2.later (Zn w2 1);have S2:w2.drew.cell? ⟨l,1,none⟩=some (.pointer (some ⟨q,0,none⟩))/\w2.drew.cell? ⟨wr.heap.size,0,none⟩=some (.string x.1)/\w2.drew.cell? ⟨wr.heap.size,1,none⟩=some (.int .i64 x.2):=⟨c1,f0,f1⟩;have HK3:=(HKE w2 L2 D1 hs2);have HKE3:=fun (W:World) (L3:List Nd) (D3:Nat->Prop) (hs4:LStep w2.drew W l p L2 D1 L3 D3)=>jY (hs4.far.blk (HK3.out.later (Zn w2 1)) (fun ho=>h3.own_ty ho (HK3.out.later (Zn w2 1)) (by decide)));have HST:=HSET w2.drew L2 h3;have FIN2:=fun (W:World) (D2:Nat->Prop) (h4:LAt W l p q D2 sd L2 (Vr m (xs.take (k+1))) (n1.set ((Vr m (xs.take k)) x.1).isSome)) (hs4:LStep w2.drew W l p L2 D1 L2 D2)=>FIN W D2 L2 h4 e2 (hs3.trans hs4)
         clear HI HKE h2 hs2 h3 hs3 c0 c1 f0 f1 HSET FIN HK3))
   all_goals (
    clear S1;go_wp2_with fail
    go_region_held (fun W=>W.cell? ⟨l,1,none⟩=some (.pointer (some ⟨q,0,none⟩))/\W.cell? ⟨wr.heap.size,0,none⟩=some (.string x.1)/\W.cell? ⟨wr.heap.size,1,none⟩=some (.int .i64 x.2)) (first|exact S2|exact S3)
     (first
       | (go_at_call 157;refine HST.out.mono ?_;rintro e w3 ⟨⟨bb,rfl⟩,D2,h4,hs4⟩
          obtain ⟨c0,c1,_,_⟩:=Zd h4.blk;obtain ⟨f0,f1,_,_⟩:=Zd (HKE3 w3 L2 D2 hs4).out;have S3:w3.cell? ⟨l,1,none⟩=some (.pointer (some ⟨q,0,none⟩))/\w3.cell? ⟨wr.heap.size,0,none⟩=some (.string x.1)/\w3.cell? ⟨wr.heap.size,1,none⟩=some (.int .i64 x.2):=⟨c1,f0,f1⟩;have HFIN:=FIN2 w3 D2 h4 hs4
          clear HST HKE3 FIN2 h4 hs4 c0 c1 f0 f1))
    all_goals (
     clear S3;go_wp2_with fail
     exact ⟨⟨k+1,by go_num,hlt,HFIN.out⟩,by simp [intOf];omega⟩))
  ·obtain rfl:k=xs.length:=by omega
   have HP:=jY (show PutAt w l p q sd D L m n xs xs.length wr from ⟨D1,L1,n1,h1,hE,hn1,hs⟩);clear h1 hE hs hn1;go_wp2_with fail;go_returns;exact ⟨rfl,HP.out⟩
variable {w w' w1 w2:World} {l p q sd:Nat} {D D1 D2:Nat->Prop} {L L1 L2:List Nd} {m:ByteArray->Option Int} {n:Dc.Sh}
theorem y4q(v:Value)(xs:List En)(hsd:sd<4294967296)(hr:Row w 0 v xs)(hd:Uf xs)(hz:∀ x∈xs,x.1.size<=281474976710656)(hN:xs.length<=100000) :
 Calls Tryz.prog 124 #[.int .u32 sd,v] w fun e w'=>∃ l p q D L m n,e=.returned (.pointer (some ⟨l,0,none⟩))/\L.map en=X3 [] xs/\m=Vr (fun _=>none) xs/\LAt w' l p q D sd L m n/\n.n<=xs.length/\Bl w w'/\(∀ k,Ug l p L D k->w.heap.size<=k):=by
 have HN:=fun W=>jY (V4 W);have HD:=fun W=>jY (Dc.z0l sd W);have HR:=jY hr;have HP:=fun W l p q D n (h:LAt W l p q D sd [] (fun _=>none) n) (hr:Row W 0 v xs) (hn:n.n=0)=>jY (y2l h v xs hr hd (fun x _ hx=>by cases hx) hz (by simpa using hN) (by omega) 1 (by omega));clear hr hd hz hN
 go_enter Tryz.func124,Tryz.ntmps124
 go_wp2_with fail;refine (HN _).out.mono ?_;rintro e w1 ⟨rfl,hb1,hl1⟩;go_wp2_with fail;refine (HD _).out.mono ?_;rintro e w2 ⟨q,rfl,hi,hb2⟩;have hz1:=hb1.size;have hz2:=hb2.size;have hb3:=Z5 w2 (.cells #[.pointer (some ⟨w.heap.size,0,none⟩),.pointer (some ⟨q,0,none⟩)] 237)
 have h3:LAt (w2.alloc (.cells #[.pointer (some ⟨w.heap.size,0,none⟩),.pointer (some ⟨q,0,none⟩)] 237)) w2.heap.size w.heap.size q (Dc.fresh Dc.tyI w1 w2) sd [] (fun _=>none) ⟨4,0,0,0⟩ :=
  ⟨Blk.new _ _ _,(hl1.later hb2).later hb3,hi.later hb3,hsd⟩
 have hbw:=(hb1.trans (hb2.mono hz1)).trans (hb3.mono (by omega));have HP3:=HP _ _ _ _ _ _ h3 (HR.out.later hbw) rfl;have HBW:=jY hbw
 have HOW:=jY (show ∀ k,Ug w2.heap.size w.heap.size [] (Dc.fresh Dc.tyI w1 w2) k->w.heap.size<=k from fun k hk=>by
  rcases hk with rfl|hk|hk
  ·omega
  ·obtain ⟨x,hx,rfl⟩:=hk;simp at hx;subst hx;exact Nat.le_refl _
  ·rcases hk.1 with h|h
   ·exact h.elim
   ·omega)
 clear hb1 hb2 hb3 hl1 hi hz1 hz2 h3 hbw HP HN HD HR;go_wp2_with fail;refine HP3.out.mono ?_;rintro e w4 ⟨rfl,⟨D1,L1,n1,h4,he4,hn4,hs4⟩⟩;rw [List.take_length] at h4 he4
 have HFIN:=jY (show ∃ l p q D L m n,Ending.returned (.pointer (some ⟨w2.heap.size,0,none⟩))=.returned (.pointer (some ⟨l,0,none⟩))/\L.map en=X3 [] xs/\m=Vr (fun _=>none) xs/\LAt w4 l p q D sd L m n/\n.n<=xs.length/\Bl w w4/\(∀ k,Ug l p L D k->w.heap.size<=k) from
  ⟨_,_,q,D1,L1,_,n1,rfl,he4,rfl,h4,by simpa using hn4,HBW.out.trans (hs4.far.below HOW.out HBW.out.size),fun k hk=>by
    rcases hs4.new k hk with h|h
    ·exact HOW.out k h
    ·exact Nat.le_trans HBW.out.size h⟩)
 clear h4 he4 hn4 hs4 HP3 HBW HOW;go_wp2_with fail;go_ret;exact HFIN.out
theorem Jm(name:String)(f:FuncId)(k:Nat)(W:World)(l p:Nat)(h:W.cell? ⟨l,0,none⟩=some (.pointer (some ⟨p,0,none⟩)))
 (hm:((Tryz.prog.info? 211).bind fun i=>(i.methods.find? (·.name==name)).map fun m=>(m.path.toList,m.func))=some ([{ struct:=237,index:=0,deref:=true }],some (f,true))) :
 (method (k+1) 211 (.pointer (some ⟨l,0,none⟩)) name).run Tryz.prog W=.ok (f,.pointer (some ⟨p,0,none⟩)) W:=by
 cases hi:Tryz.prog.info? 211 with
 | none=>rw [hi] at hm;cases hm
 | some i =>
   rw [hi] at hm
   cases hf:i.methods.find? (·.name==name) with
   | none=>rw [Option.bind_some,hf] at hm;cases hm
   | some mm =>
     rw [Option.bind_some,hf] at hm;simp only [Option.map_some,Option.some.injEq,Prod.mk.injEq] at hm;have hu:=run_underlying (P:=Tryz.prog) Tryz.underlying237;have hu2:=run_underlying (P:=Tryz.prog) Tryz.underlying232;unfold method;simp [typeInfo,hi,hf,hm.1,hm.2,follow,hu,hu2,receiverAt,Place.get,go_sem,h]
theorem Cp{W:World}{l p:Nat}(h:W.cell? ⟨l,0,none⟩=some (.pointer (some ⟨p,0,none⟩))) :
 (method 469 211 (.pointer (some ⟨l, 0, none⟩)) "Len").run Tryz.prog W = .ok (272, .pointer (some ⟨p, 0, none⟩)) W := Jm "Len" 272 468 W l p h (by kernel_rfl)
theorem z0h{W:World}{l p:Nat}(h:W.cell? ⟨l,0,none⟩=some (.pointer (some ⟨p,0,none⟩))) :
 (method 469 211 (.pointer (some ⟨l, 0, none⟩)) "Range").run Tryz.prog W = .ok (273, .pointer (some ⟨p, 0, none⟩)) W := Jm "Range" 273 468 W l p h (by kernel_rfl)
theorem Co{W:World}{l p:Nat}(h:W.cell? ⟨l,0,none⟩=some (.pointer (some ⟨p,0,none⟩))) :
 (method 469 211 (.pointer (some ⟨l, 0, none⟩)) "Delete").run Tryz.prog W = .ok (271, .pointer (some ⟨p, 0, none⟩)) W := Jm "Delete" 271 468 W l p h (by kernel_rfl)
theorem Zh{W:World}{b:Nat}{t:TypeId}{c0 c1 c2 c3:Value}(h:Blk W b t #[c0,c1,c2,c3]):(W.cell? ⟨b,0,none⟩=some c0/\W.cell? ⟨b,1,none⟩=some c1/\W.cell? ⟨b,2,none⟩=some c2/\W.cell? ⟨b,3,none⟩=some c3)/\W.frozen? ⟨b,0,none⟩=false :=
 ⟨⟨h.cell 0,h.cell 1,h.cell 2,h.cell 3⟩,h.free 0⟩
abbrev Id (form:Value) (le lm:Int) (sd:Nat):Array Value:=#[form,.int .i64 le,.int .i64 lm,.int .u32 sd]
structure Good (le lm:Int) (c:Nat) (E:List En):Prop where
 le:0<=le/\le<=200
 lm:0<=lm/\lm<=64
 srt:Pi E
 dist:Uf E
 each:∀ e∈E,e.1.size<=64/\Pk.Yl e.2
 len:E.length<=c
 cap:c<=10000
structure PSet (W:World) (s b:Nat) (le lm:Int) (sd c:Nat) (E:List En):Prop where
 blk:Blk W s 127 (Id (.iface 157 (.pointer (some ⟨b,0,none⟩))) le lm sd)
 pk:PackAt W b E
 few:(E.length:Int)<=le
 good:Good le lm c E
 sd:sd<4294967296
structure LSet (W:World) (s l p q:Nat) (D:Nat->Prop) (L:List Nd) (m:ByteArray->Option Int) (n:Dc.Sh) (le lm:Int) (sd c:Nat) (E:List En):Prop where
 blk:Blk W s 127 (Id (.iface 211 (.pointer (some ⟨l,0,none⟩))) le lm sd)
 li:LAt W l p q D sd L m n
 en:L.map en=E
 map:MapOf m E
 n:n.n<=c
 good:Good le lm c E
variable {w w' w1 w2:World} {s b l p q sd c:Nat} {D:Nat->Prop} {L:List Nd} {m:ByteArray->Option Int} {n:Dc.Sh} {le lm:Int} {E:List En}
theorem PSet.later(h:PSet w s b le lm sd c E)(hb:Bl w w'):PSet w' s b le lm sd c E:=⟨h.blk.later hb,h.pk.later hb,h.few,h.good,h.sd⟩
theorem LSet.later(h:LSet w s l p q D L m n le lm sd c E)(hb:Bl w w'):LSet w' s l p q D L m n le lm sd c E:=⟨h.blk.later hb,h.li.later hb,h.en,h.map,h.n,h.good⟩
theorem LSet.len(h:LSet w s l p q D L m n le lm sd c E):L.length=E.length:=by rw [<- h.en,List.length_map]
theorem LSet.lenN(h:LSet w s l p q D L m n le lm sd c E):L.length<=100000:=by
 have h1:=h.len;have h2:=h.good.len;have h3:=h.good.cap;omega
variable {w w' w1 w2:World} {s b l p q sd c:Nat} {D:Nat->Prop} {L:List Nd} {m:ByteArray->Option Int} {n:Dc.Sh} {le lm:Int} {E:List En}
theorem z6e(u:Value)(W:World):(Instr.typeAssert (.iface 157 u) 112 157 true).run Tryz.prog W=.ok (.tuple #[u,.bool true]) W:=by kernel_rfl
theorem z6d(u:Value)(W:World):(Instr.typeAssert (.iface 211 u) 112 157 true).run Tryz.prog W=.ok (.tuple #[.pointer none,.bool false]) W:=by kernel_rfl
theorem z2y(hb:Blk w s 127 (Id (.iface 157 (.pointer (some ⟨b,0,none⟩))) le lm sd)):Calls Tryz.prog 122 #[.pointer (some ⟨s,0,none⟩)] w fun e w'=>e=.returned (.tuple #[.pointer (some ⟨b,0,none⟩),.bool true])/\w'=w:=by
 obtain ⟨⟨e0,_⟩,_⟩:=Zh hb;have ha:=z6e;clear hb
 go_enter Tryz.func122,Tryz.ntmps122
 go_wp2;go_ret2;exact ⟨rfl,rfl⟩
theorem y1u(hb:Blk w s 127 (Id (.iface 211 (.pointer (some ⟨l,0,none⟩))) le lm sd)):Calls Tryz.prog 122 #[.pointer (some ⟨s,0,none⟩)] w fun e w'=>e=.returned (.tuple #[.pointer none,.bool false])/\w'=w:=by
 obtain ⟨⟨e0,_⟩,_⟩:=Zh hb;have ha:=z6d;clear hb
 go_enter Tryz.func122,Tryz.ntmps122
 go_wp2;go_ret2;exact ⟨rfl,rfl⟩
theorem y0a(h:PSet w s b le lm sd c E):Calls Tryz.prog 38 #[.pointer (some ⟨s,0,none⟩)] w fun e w'=>e=.returned (.int .i64 (Pk.Zv E).size)/\w'=w:=by
 obtain ⟨⟨e0,_⟩,_⟩:=Zh h.blk;have HB:=jY (y1m h.pk);clear h
 go_enter Tryz.func38,Tryz.ntmps38
 go_wp2_with fail;refine HB.out.mono ?_;rintro e w1 ⟨rfl,rfl⟩;go_wp2_with fail;go_ret;exact ⟨rfl,rfl⟩
theorem Ao(h:PSet w s b le lm sd c E)(m:ByteArray):Calls Tryz.prog 84 #[.pointer (some ⟨s,0,none⟩),.string m] w fun e w'=>e=.returned (.bool false)/\Bl w w':=by
 obtain ⟨⟨e0,_⟩,_⟩:=Zh h.blk;have HL:=jY (z2s h.pk);have h1:(E.length:Int)<400:=by have:=h.pk.ok.many;omega
 clear h
 go_enter Tryz.func84,Tryz.ntmps84
 go_wp2_with fail;refine HL.out.mono ?_;rintro e w1 ⟨rfl,hb⟩;go_wp2_with fail;go_ret;exact ⟨rfl,hb⟩
theorem z6v(h:LSet w s l p q D L m n le lm sd c E)(h4:E.length<400)(k:ByteArray):Calls Tryz.prog 84 #[.pointer (some ⟨s,0,none⟩),.string k] w fun e w'=>e=.returned (.bool false)/\Bl w w':=by
 obtain ⟨⟨e0,_⟩,_⟩:=Zh h.blk;have HL:=jY (Ov p L rfl h.li.ls.sk);rw [h.len] at HL;have hme:=Cp (Zd h.li.blk).1;have h1:(E.length:Int)<400:=by omega
 clear h
 go_enter Tryz.func84,Tryz.ntmps84
 go_wp2_with fail;refine HL.out.mono ?_;rintro e w1 ⟨rfl,rfl⟩;go_wp2_with fail;go_ret;exact ⟨rfl,Below.refl _ _⟩
theorem y4n(hb:Blk w s 127 (Id (.iface 211 (.pointer (some ⟨l,0,none⟩))) le lm sd))(k:ByteArray):Calls Tryz.prog 85 #[.pointer (some ⟨s,0,none⟩),.string k] w fun e w'=>e=.returned (.tuple #[])/\Bl w w':=by
 have HS:=jY (y1u hb);clear hb
 go_enter Tryz.func85,Tryz.ntmps85
 go_wp2_with (go_at_call 122;refine HS.out.mono ?_;rintro e w1 ⟨rfl,rfl⟩)
 go_quiet (fail)
 go_wp2_with fail;go_returns;exact ⟨rfl,Zn _ _⟩
theorem z8m{xs:List En}:∀ {m:ByteArray->Option Int} {E:List En},MapOf m E->Uf xs->(∀ x∈xs,∀ y∈E,y.1≠x.1)->MapOf (Vr m xs) (X3 E xs):=by
 induction xs with
 | nil=>intro m E h _ _;exact h
 | cons x xs ih =>
   intro m E h hd hno;have hd2:=List.pairwise_cons.1 hd;show MapOf (Vr (Il m x.1 x.2) xs) (X3 (V9 E x.1 x.2) xs);have h1:=h.put x.1 x.2;unfold Xv at h1;rw [Vb fun y hy=>hno x (List.mem_cons_self ..) y hy] at h1;refine ih h1 hd2.2 fun z hz y hy=>?_;rcases Oy.1 hy with rfl|hy
   ·exact hd2.1 z hz
   ·exact hno z (List.mem_cons_of_mem _ hz) y hy
theorem z9l{α:Type}(P:α->Bool):∀ l:List α,(∀ y∈l,P y=true)->l.takeWhile P=l
 | [],_=>rfl
 | x :: l,h=>by rw [List.takeWhile_cons_of_pos (h x (List.mem_cons_self ..)),z9l P l fun y hy=>h y (List.mem_cons_of_mem _ hy)]
theorem Ik{E:List En}(hs:Pi E):∀ k,k<=E.length->X3 [] (E.take k)=E.take k:=by
 intro k
 induction k with
 | zero=>intro _;simp [X3]
 | succ k ih =>
   intro hk;have hx:E[k]?=some E[k]:=List.getElem?_eq_getElem (by omega);rw [Kf [] E k _ hx,ih (by omega)]
   have hp:Xj (E.take k) E[k].1 E[k].2=k:=by
    unfold Xj
    have:∀ y∈E.take k,Y2 y.1 y.2 E[k].1 E[k].2=true:=fun y hy=>by
     obtain ⟨i,hi⟩:=List.mem_iff_getElem?.1 hy;have hil:=(List.getElem?_eq_some_iff.1 hi).1;rw [List.length_take] at hil;rw [List.getElem?_take_of_lt (by omega)] at hi;obtain ⟨h1,h2⟩:=List.getElem?_eq_some_iff.1 hi
     have:=List.pairwise_iff_getElem.1 hs i k h1 (by omega) (by omega)
     rw [h2] at this;exact this
    rw [z9l _ _ this,List.length_take];omega
   unfold V9;rw [hp,List.take_take,Nat.min_self,List.drop_of_length_le (by simp;omega),List.take_succ_eq_append_getElem (by omega)]
theorem Ke{E:List En}(hs:Pi E):X3 [] E=E:=by
 have:=Ik hs E.length (Nat.le_refl _)
 rwa [List.take_length] at this
theorem z4v{W:World}{s o o':Nat}{v u:Value}(h:W.cell? ⟨s,o,none⟩=some u)(hne:o≠o'):(W.setCell ⟨s,o',none⟩ v).cell? ⟨s,o,none⟩=some u:=by
 rw [World.cell?_setCell_other _ _ _ _ (fun e=>hne (by injection e with _ e2 _;exact e2.symm))];exact h
variable {w w' w1 w2:World} {s b l p q sd c:Nat} {D:Nat->Prop} {L:List Nd} {m:ByteArray->Option Int} {n:Dc.Sh} {le lm:Int} {E:List En}
theorem y3a(h:PSet w s b le lm sd c E)(k:ByteArray)(h1:(E.length:Int)<le)(h2:(k.size:Int)<=lm):Calls Tryz.prog 85 #[.pointer (some ⟨s,0,none⟩),.string k] w fun e w'=>e=.returned (.tuple #[])/\Bl w w':=by
 have HS:=jY (z2y h.blk);have HL:=fun W (hb:Bl w W)=>jY (z2s (h.pk.later hb));have HSW:=jY (fun W (hb:Bl w W)=>show W.cell? ⟨s,1,none⟩=some (.int .i64 le)/\W.cell? ⟨s,2,none⟩=some (.int .i64 lm) from ⟨(Zh (h.blk.later hb)).1.2.1,(Zh (h.blk.later hb)).1.2.2.1⟩);have g1:decide (le<=(E.length:Int))=false:=decide_eq_false (by omega);have g2:decide (lm<(k.size:Int))=false:=decide_eq_false (by omega);clear h h1 h2
 go_enter Tryz.func85,Tryz.ntmps85
 go_wp2_with (go_at_call 122;refine HS.out.mono ?_;rintro e w1 ⟨rfl,rfl⟩)
 have HB1:=jY (Zn w1 1);have HL1:=HL w1.drew HB1.out;have S0:=HSW.out w1.drew HB1.out;clear HL HS
 go_region_held (fun W=>W.cell? ⟨s,1,none⟩=some (.int .i64 le)/\W.cell? ⟨s,2,none⟩=some (.int .i64 lm)) (first|exact S0|exact S1)
  (first
    | (go_at_call 123;refine HL1.out.mono ?_;rintro e w2 ⟨rfl,hb⟩
       have HB2:=jY (HB1.out.trans (hb.mono HB1.out.size));have S1:=HSW.out _ HB2.out
       clear hb HL1))
 all_goals (
  clear S1;go_wp2_with fail;go_returns
  exact ⟨rfl,HB2.out⟩)
theorem y0n(h:PSet w s b le lm sd c E)(k:ByteArray)(h1:le<=(E.length:Int)\/lm<(k.size:Int)):Calls Tryz.prog 85 #[.pointer (some ⟨s,0,none⟩),.string k] w fun e w'=>e=.returned (.tuple #[]) /\
 ∃ l p q D L m n,LSet w' s l p q D L m n le lm sd c E/\(∀ k,Ug l p L D k->w.heap.size<=k)/\Far (fun k=>k=s) w w':=by
 have HS:=jY (z2y h.blk);have HL:=fun W (hb:Bl w W)=>jY (z2s (h.pk.later hb));have HE:=fun W (hb:Bl w W)=>jY (Gi (h.pk.later hb));have HSW:=jY (fun W (hb:Bl w W)=>show W.cell? ⟨s,1,none⟩=some (.int .i64 le)/\W.cell? ⟨s,2,none⟩=some (.int .i64 lm) from ⟨(Zh (h.blk.later hb)).1.2.1,(Zh (h.blk.later hb)).1.2.2.1⟩);have HSV:=jY (fun W (hb:Bl w W)=>show W.cell? ⟨s,3,none⟩=some (.int .u32 sd)/\W.frozen? ⟨s,0,none⟩=false from ⟨(Zh (h.blk.later hb)).1.2.2.2,(Zh (h.blk.later hb)).2⟩);have HBK:=jY (fun W (hb:Bl w W)=>h.blk.later hb);have hEl:=h.good.len;have hEc:=h.good.cap;have HNEW:=fun W v (hr:Row W 0 v E)=>jY (y4q (w:=W) (sd:=sd) v E h.sd hr h.good.dist (fun x hx=>by have:=(h.good.each x hx).1;omega) (by omega));have HG:=jY h.good
 have HME:=jY (show MapOf (Vr (fun _=>none) E) E by
  have:=z8m (xs:=E) (m:=fun _=>none) (E:=[]) (fun k v=>by simp) h.good.dist (fun _ _ y hy=>by cases hy)
  rwa [Ke h.good.srt] at this)
 have HPE:=jY (Ke h.good.srt);have hsz:=h.blk.lt
 have hcase:(decide (le<=(E.length:Int))=true)\/(decide (le<=(E.length:Int))=false/\decide (lm<(k.size:Int))=true):=by
  by_cases h3:le<=(E.length:Int)
  ·exact .inl (decide_eq_true h3)
  ·exact .inr ⟨decide_eq_false h3,decide_eq_true (by omega)⟩
 clear h h1
 go_enter Tryz.func85,Tryz.ntmps85
 go_wp2_with (go_at_call 122;refine HS.out.mono ?_;rintro e w1 ⟨rfl,rfl⟩)
 clear HS hEl hEc;have q1:=fun y:Ext w1=>(HSW.out y.w y.ok).1;have q2:=fun y:Ext w1=>(HSW.out y.w y.ok).2;have HLE:=fun y:Ext w1=>HL y.w y.ok;have hne:=Ext.one w1;clear HSW HL;rcases hcase with g1|⟨g1,g2⟩
 all_goals (
  refine Zf (w1:=w1) (by kernel_rfl) (by kernel_rfl) (Below.refl _ _) ?_
  repeat go_big_quiet_step ((go_at_call 123;exact Ext.call _ (HLE _).out))
  refine wpQuiet_nil ?_;rintro _ ⟨y,rfl⟩;have HB2:=jY y.ok;clear q1 q2 HLE hne;obtain ⟨w2,hok⟩:=y
  (
   go_wp2_with fail;have HB3:=jY (HB2.out.trans ((Zn w2 1).mono HB2.out.size));have HE1:=HE w2.drew HB3.out;have S2:=HSV.out w2.drew HB3.out
   go_region_held (fun W=>W.cell? ⟨s,3,none⟩=some (.int .u32 sd)/\W.frozen? ⟨s,0,none⟩=false) (first|exact S2|exact S3|exact S4|exact S5)
    (first
      | (go_at_call 125;refine HE1.out.mono ?_;rintro e w3 ⟨r,rfl,ho,hb⟩
         have HB4:=jY (HB3.out.trans (hb.mono HB3.out.size));have S3:=HSV.out _ HB4.out;have HN1:=HNEW w3 r ((J0 ho).mono (Nat.zero_le _))
         clear hb HE1 ho HNEW)
      | (go_at_call 124;refine HN1.out.mono ?_;rintro e w4 ⟨l,p,q,D,L,m,n,rfl,he4,hm4,h4,hn4,hb,hown⟩
         have HB5:=jY (HB4.out.trans (hb.mono HB4.out.size));have S4:=HSV.out _ HB5.out;have G0:=(Zh (HBK.out _ HB5.out)).1.1;have G1:=S4.2
         have S5:(w4.setCell ⟨s,0,none⟩ (.iface 211 (.pointer (some ⟨l,0,none⟩)))).cell? ⟨s,3,none⟩=some (.int .u32 sd)/\(w4.setCell ⟨s,0,none⟩ (.iface 211 (.pointer (some ⟨l,0,none⟩)))).frozen? ⟨s,0,none⟩=false:=by
          have hk:=(HBK.out _ HB5.out).set 0 (.iface 211 (.pointer (some ⟨l,0,none⟩)));exact ⟨z4v S4.1 (by decide),hk.free 0⟩
         have HFIN:=jY (show ∃ l' p q D L m n,LSet (w4.setCell ⟨s,0,none⟩ (.iface 211 (.pointer (some ⟨l,0,none⟩)))) s l' p q D L m n le lm sd c E/\(∀ k,Ug l' p L D k->w1.heap.size<=k)/\Far (fun k=>k=s) w1 (w4.setCell ⟨s,0,none⟩ (.iface 211 (.pointer (some ⟨l,0,none⟩)))) from by
          have hk:=(HBK.out _ HB5.out).set 0 (.iface 211 (.pointer (some ⟨l,0,none⟩)));have hge:∀ k,Ug l p L D k->w1.heap.size<=k:=fun k hk=>Nat.le_trans HB4.out.size (hown k hk);have hfs:=Fc (S:=fun k=>k=s) w4 s 0 (.iface 211 (.pointer (some ⟨l,0,none⟩))) rfl
          exact ⟨l,p,q,D,L,m,n,⟨hk,h4.far hfs (fun k hk2 e=>by have:=hge k hk2;omega),he4.trans HPE.out,by rw [hm4];exact HME.out,Nat.le_trans hn4 HG.out.len,HG.out⟩,hge,(Far.of_below HB5.out).trans hfs (fun k hk=>.inl hk)⟩)
         clear he4 hm4 h4 hn4 hb hown HN1))
   all_goals (
    clear S5 G0 G1;go_wp2_with fail;go_returns
    exact ⟨rfl,HFIN.out⟩)))
variable {w w' w1 w2:World} {s b l p q sd c:Nat} {D D1:Nat->Prop} {L L1:List Nd} {m:ByteArray->Option Int} {n:Dc.Sh} {le lm:Int} {E:List En}
theorem LSet.dict(h:LSet w s l p q D L m n le lm sd c E){n2:Dc.Sh}(hn:Dc.IsNow D w q sd m n2 w')(hc:n2.n<=c):LSet w' s l p q (Dc.Xe Dc.tyI D w w') L m n2 le lm sd c E :=
 ⟨(z0t hn.2).blk h.blk (fun hk=>by
   obtain ⟨t,c,ht,hb⟩:=h.li.d_ty hk
   have:=hb.ty h.blk
   rcases ht with rfl|rfl|rfl <;> exact absurd this (by decide)),h.li.dict hn,h.en,h.map,hc,h.good⟩
theorem z3b(n:Dc.Sh):n.step1.n=n.n:=Dc.Mb n
theorem LSet.blk_step(h:LSet w s l p q D L m n le lm sd c E)(hs:LStep w w' l p L D L1 D1):Blk w' s 127 (Id (.iface 211 (.pointer (some ⟨l,0,none⟩))) le lm sd) :=
 hs.far.blk h.blk fun ho=>h.li.own_ty ho h.blk (by decide)
variable {w w' w1 w2:World} {s b l p q sd c:Nat} {D D1:Nat->Prop} {L L1:List Nd} {m:ByteArray->Option Int} {n:Dc.Sh} {le lm:Int} {E:List En}
theorem z9w(k:ByteArray)(sc lv:Int)(hbad:64<k.size\/lv<1\/32<lv)(w:World):Calls Tryz.prog 53 #[.pointer (some ⟨s,0,none⟩),.string k,.int .i64 sc,.int .i64 lv] w fun e w'=>e=.returned (.tuple #[.bool false,.int .i64 2])/\w'=w:=by
 by_cases h1:64<k.size
 ·have h2:(64:Int)<k.size:=by omega
  clear hbad h1
  go_enter Tryz.func53,Tryz.ntmps53
  go_wp2;go_ret2;exact ⟨rfl,rfl⟩
 ·have h2:¬ (64:Int)<k.size:=by omega
  by_cases h3:lv<1
  ·clear hbad h1
   go_enter Tryz.func53,Tryz.ntmps53
   go_wp2;go_ret2;exact ⟨rfl,rfl⟩
  ·have h4:32<lv:=by omega
   clear hbad h1
   go_enter Tryz.func53,Tryz.ntmps53
   go_wp2;go_ret2;exact ⟨rfl,rfl⟩
theorem Di{E:List En}(hv:Ve E)(k:ByteArray):match whE E k with
 | none=>Pk.Q9 (Pk.Zv E) (Pk.Vg E k)=((⟨#[]⟩,0),2)
 | some i=>∃ v,E[i]?=some (k,v)/\Pk.Q9 (Pk.Zv E) (Pk.Vg E k)=((k,v),0):=by
 rw [Dq hv,Bv]
 cases h:whE E k with
 | none=>simp
 | some i =>
   obtain ⟨v,hx⟩:=Qv h;have hi:=(List.getElem?_eq_some_iff.1 hx).1;refine ⟨v,hx,?_⟩;have h1:¬ ((i:Int)<0\/(E.length:Int)<=i):=by omega
   simp only [if_neg h1,Int.toNat_natCast,List.getD_eq_getElem?_getD,hx,Option.getD_some]
variable {w w' w1 w2:World} {s b l p q sd c:Nat} {D D1:Nat->Prop} {L L1:List Nd} {m:ByteArray->Option Int} {n:Dc.Sh} {le lm:Int} {E:List En}
theorem M6(W:World)(k:ByteArray)(sc:Int):Row (W.alloc (.cells #[.string k,.int .i64 sc] 107)) 0 (.slice (some ⟨W.heap.size,0,none⟩) 1 1) [(k,sc)]:=by
 have hB:=Blk.new W 107 #[.string k,.int .i64 sc];refine ⟨⟨_,1,rfl⟩,fun i e he=>?_⟩;have hi:i=0:=by have:=(List.getElem?_eq_some_iff.1 he).1;simpa using this
 subst hi;simp at he;subst he;exact ⟨_,0,1,_,rfl,Nat.zero_le _,hB,hB.cell 0,hB.cell 1⟩
theorem Good.add(h:Good le lm c E)(hc:c+1<=10000)(k:ByteArray)(sc:Int)(hk:k.size<=64)(hs:Pk.Yl sc):Good le lm (c+1) (Xv E k sc) :=
 ⟨h.le,h.lm,z8y h.srt k sc,z3h h.dist k sc,fun e he=>by
   rcases Cn.1 he with rfl|he
   ·exact ⟨hk,hs⟩
   ·exact h.each e he.1,by have:=h.len;rw [Od h.dist];split <;> omega,hc⟩
theorem PSet.put(h:PSet w s b le lm sd c E)(hc:c+1<=10000){k:ByteArray}{sc:Int}(hk:k.size<=64)(hs:Pk.Yl sc)(hf:((Xv E k sc).length:Int)<=le)(hp:PackAt w' b (Xv E k sc))(hfar:Far (fun k=>k=b) w w'):PSet w' s b le lm sd (c+1) (Xv E k sc) :=
 ⟨hfar.blk h.blk (fun e=>by subst e;exact absurd (h.blk.ty h.pk.blk) (by decide)),hp,hf,h.good.add hc k sc hk hs,h.sd⟩
theorem y2m{W:World}(h:PackAt W b E):∀ k cur,Blk W k 107 cur->k≠b:=fun k cur hk e=>by subst e;exact absurd (hk.ty h.blk) (by decide)
theorem z1v{k:ByteArray}(h:whE E k=none):Ks E k=false:=by rw [Kv,h];rfl
theorem Mg{i:Nat}{k:ByteArray}(h:whE E k=some i):Ks E k=true:=by rw [Kv,h];rfl
theorem D7(h:PSet w s b le lm sd c E)(hc:c+1<=10000)(k:ByteArray)(sc lv:Int)(hk:k.size<=64)(hs:Pk.Yl sc)(hlv:1<=lv/\lv<=32){i:Nat}(hq:whE E k=some i) :
 Calls Tryz.prog 53 #[.pointer (some ⟨s,0,none⟩),.string k,.int .i64 sc,.int .i64 lv] w fun e w'=>e=.returned (.tuple #[.bool false,.int .i64 0])/\PSet w' s b le lm sd (c+1) (Xv E k sc)/\Far (fun k=>k=b) w w':=by
 have HFULL:=jY (Ao h k);have hsc:=Di h.pk.ok k;rw [hq] at hsc;obtain ⟨v,hx,hg⟩:=hsc;have HSC:=fun W (hb:Bl w W)=>jY (D0 (h.pk.later hb) k);rw [hg] at HSC;have HDEL:=fun W (hb:Bl w W)=>jY (z8d (h.pk.later hb) h.good.dist k v);have HSB:=fun W (hb:Bl w W)=>jY (Zh (h.blk.later hb)).1.1
 have hrl:(rmE E k).length<200:=by
  have h1:=z2v h.good.dist k;rw [Mg hq] at h1;have h2:=h.pk.ok.many;have h3:=(List.getElem?_eq_some_iff.1 hx).1;simp only [if_true] at h1;omega
 have HPUT:=fun W (hp:PackAt W b (rmE E k)) v (hr:Row W 0 v [(k,sc)])=>jY (y2n hp (z2z h.good.srt k) hrl lv v k hk sc hs hr (y2m hp));have HFIN:=fun W (hp:PackAt W b (Xv E k sc)) (hf:Far (fun k=>k=b) w W)=>jY (h.put hc hk hs (by rw [Od h.good.dist,Mg hq];exact h.few) hp hf);have HBF:=fun W (hf:Far (fun k=>k=b) w W)=>jY (Zh (hf.blk h.blk (fun e=>by subst e;exact absurd (h.blk.ty h.pk.blk) (by decide)))).1.1;have h1:¬ (64:Int)<k.size:=by omega
 have h2:¬ lv<1:=by omega
 have h3:¬ 32<lv:=by omega
 rw [Mg hq] at HDEL;clear h hq hx hg hrl hk hs hlv hc
 go_enter Tryz.func53,Tryz.ntmps53
 go_wp2_with fail;refine HFULL.out.mono ?_;rintro e w1 ⟨rfl,hb⟩;have HSC1:=HSC w1 hb;have e0:=(HSB w1 hb).out;have HB1:=jY hb;clear hb HSC HFULL;go_wp2_with fail;refine HSC1.out.mono ?_;rintro e w2 ⟨rfl,hb⟩;have hb2:=HB1.out.trans (hb.mono HB1.out.size);have HDEL2:=HDEL w2 hb2;have e2:=(HSB w2 hb2).out;have HB2:=jY hb2;clear hb hb2 HDEL HSC1 HSB e0;go_wp2_with fail;refine HDEL2.out.mono ?_;rintro e w3 ⟨rfl,hp3,hf3⟩;have hf4:=(show Far (fun k=>k=b) w w2 from Far.of_below HB2.out).trans hf3 (fun k hk=>.inl hk);have e3:=(HBF w3 hf4).out;have hb4:=Z5 w3 (.cells #[.string k,.int .i64 sc] 107);have HPUT4:=HPUT _ (hp3.later hb4) _ (M6 w3 k sc);have HF4:=jY (hf4.then_below hb4);clear hp3 hf3 hf4 hb4 HPUT HBF HDEL2 e2;go_wp2_with fail;refine HPUT4.out.mono ?_;rintro e w5 ⟨rfl,hp5,hf5⟩;have hf6:=HF4.out.trans hf5 (fun k hk=>.inl hk);have HR:=jY (And.intro (HFIN w5 hp5 hf6).out hf6);clear hp5 hf5 hf6 HPUT4;go_wp2_with fail;go_ret2;exact ⟨rfl,HR.out⟩
theorem z0f(hblk:Blk w s 127 (Id (.iface 211 (.pointer (some ⟨l,0,none⟩))) le lm sd))(h:LAt w l p q D sd L m n)(k:ByteArray)(sc:Int)(he:L.map en=rmE E k)(hm:MapOf m E)(hn:n.n<=c)(hg:Good le lm c E)(hc:c+1<=10000)(hk:k.size<=64)(hs:Pk.Yl sc)(lv:Int)(hlv:1<=lv/\lv<=32)(v:Value)(hr:Row w 0 v [(k,sc)]) :
 Calls Tryz.prog 144 #[.pointer (some ⟨l,0,none⟩),.int .i64 lv,v] w fun e w'=>e=.returned (.tuple #[])/\∃ D1 L1 m1 n1,LSet w' s l p q D1 L1 m1 n1 le lm sd (c+1) (Xv E k sc)/\LStep w w' l p L D L1 D1:=by
 have hll:L.length<=E.length:=by
  have h1:=congrArg List.length he;rw [List.length_map,z2v hg.dist] at h1
  split at h1 <;> omega
 have h2:=hg.len
 have hp:=y2l h v [(k,sc)] hr (List.pairwise_singleton _ _) (fun x hx hx2=>by
  obtain rfl:x=(k,sc):=by simpa using hx
  rw [he] at hx2
  exact (Kz.1 hx2).2 rfl) (fun x hx=>by
  obtain rfl:x=(k,sc):=by simpa using hx
  show k.size<=_
  omega) (by simp;omega) (by simp;omega) lv.toNat (by omega)
 rw [show ((lv.toNat:Nat):Int)=lv by omega] at hp;refine hp.mono fun e w' hq=>?_;obtain ⟨he1,⟨D1,L1,n1,h1,hE,hn1,hs1⟩⟩:=hq;refine ⟨he1,D1,L1,_,n1,⟨hs1.far.blk hblk (fun ho=>h.own_ty ho hblk (by decide)),h1,?_,hm.put k sc,by simp at hn1;omega,hg.add hc k sc hk hs⟩,hs1⟩;rw [hE,he];rfl
theorem z0x(h:PSet w s b le lm sd c E)(hc:c+1<=10000)(k:ByteArray)(sc lv:Int)(hk:k.size<=64)(hs:Pk.Yl sc)(hlv:1<=lv/\lv<=32)(hq:whE E k=none)(hf1:(E.length:Int)<le)(hf2:(k.size:Int)<=lm) :
 Calls Tryz.prog 53 #[.pointer (some ⟨s,0,none⟩),.string k,.int .i64 sc,.int .i64 lv] w fun e w'=>e=.returned (.tuple #[.bool true,.int .i64 0])/\PSet w' s b le lm sd (c+1) (Xv E k sc)/\Far (fun k=>k=b) w w':=by
 have HFULL:=jY (Ao h k);have hsc:=Di h.pk.ok k;rw [hq] at hsc;have HSC:=fun W (hb:Bl w W)=>jY (D0 (h.pk.later hb) k);rw [hsc] at HSC;have HFIT:=fun W (hb:Bl w W)=>jY (y3a (h.later hb) k hf1 hf2);have HSB:=fun W (hb:Bl w W)=>jY (Zh (h.blk.later hb)).1.1;have hle:=h.good.le;have hrm:=Vb (Vt hq);have HPUT:=fun W (hb:Bl w W) v (hr:Row W 0 v [(k,sc)])=>jY (y2n (h.pk.later hb) h.good.srt (by omega) lv v k hk sc hs hr (y2m (h.pk.later hb)));have hadd:Xv E k sc=V9 E k sc:=by unfold Xv;rw [hrm]
 have HFIN:=fun W (hp:PackAt W b (Xv E k sc)) (hf:Far (fun k=>k=b) w W)=>jY (h.put hc hk hs (by rw [Od h.good.dist,z1v hq];simp;omega) hp hf);have h1:¬ (64:Int)<k.size:=by omega
 have h2:¬ lv<1:=by omega
 have h3:¬ 32<lv:=by omega
 rw [hadd] at *;clear h hq hsc hk hs hlv hc hf1 hf2 hle hrm hadd
 go_enter Tryz.func53,Tryz.ntmps53
 go_wp2_with fail;refine HFULL.out.mono ?_;rintro e w1 ⟨rfl,hb⟩;have HSC1:=HSC w1 hb;have e0:=(HSB w1 hb).out;have HB1:=jY hb;clear hb HSC HFULL;go_wp2_with fail;refine HSC1.out.mono ?_;rintro e w2 ⟨rfl,hb⟩;have hb2:=HB1.out.trans (hb.mono HB1.out.size);have HFIT2:=HFIT w2 hb2;have HB2:=jY hb2;clear hb hb2 HFIT HSC1 e0;go_wp2_with fail;refine HFIT2.out.mono ?_;rintro e w3 ⟨rfl,hb⟩;have hb3:=HB2.out.trans (hb.mono HB2.out.size);have e3:=(HSB w3 hb3).out;have hb4:=hb3.trans ((Z5 w3 (.cells #[.string k,.int .i64 sc] 107)).mono hb3.size);have HPUT4:=HPUT _ hb4 _ (M6 w3 k sc);have HB4:=jY hb4;clear hb hb3 hb4 HPUT HSB HFIT2;go_wp2_with fail;refine HPUT4.out.mono ?_;rintro e w5 ⟨rfl,hp5,hf5⟩;have hf6:=(show Far (fun k=>k=b) w _ from Far.of_below HB4.out).trans hf5 (fun k hk=>.inl hk);have HR:=jY (And.intro (HFIN w5 hp5 hf6).out hf6);clear hp5 hf5 hf6 HPUT4;go_wp2_with fail;go_ret2;exact ⟨rfl,HR.out⟩
theorem B5(h:PSet w s b le lm sd c E)(hc:c+1<=10000)(k:ByteArray)(sc lv:Int)(hk:k.size<=64)(hs:Pk.Yl sc)(hlv:1<=lv/\lv<=32)(hq:whE E k=none)(hf1:le<=(E.length:Int)\/lm<(k.size:Int)) :
 Calls Tryz.prog 53 #[.pointer (some ⟨s,0,none⟩),.string k,.int .i64 sc,.int .i64 lv] w fun e w'=>e=.returned (.tuple #[.bool true,.int .i64 0])/\∃ l p q D L m n,LSet w' s l p q D L m n le lm sd (c+1) (Xv E k sc)/\(∀ k,Ug l p L D k->w.heap.size<=k)/\Far (fun k=>k=s) w w':=by
 have HFULL:=jY (Ao h k);have hsc:=Di h.pk.ok k;rw [hq] at hsc;have HSC:=fun W (hb:Bl w W)=>jY (D0 (h.pk.later hb) k);rw [hsc] at HSC;have HFIT:=fun W (hb:Bl w W)=>jY (y0n (h.later hb) k hf1);have HSB:=fun W (hb:Bl w W)=>jY (Zh (h.blk.later hb)).1.1;have hrm:=Vb (Vt hq);have HPUT:=fun W l p q D L m n (hL:LSet W s l p q D L m n le lm sd c E) v (hr:Row W 0 v [(k,sc)])=>jY (z0f hL.blk hL.li k sc (by rw [hrm];exact hL.en) hL.map hL.n hL.good hc hk hs lv hlv v hr);have h1:¬ (64:Int)<k.size:=by omega
 have h2:¬ lv<1:=by omega
 have h3:¬ 32<lv:=by omega
 have HSL:=jY h.blk.lt;clear h hq hsc hk hs hlv hc hf1 hrm
 go_enter Tryz.func53,Tryz.ntmps53
 go_wp2_with fail;refine HFULL.out.mono ?_;rintro e w1 ⟨rfl,hb⟩;have HSC1:=HSC w1 hb;have e0:=(HSB w1 hb).out;have HB1:=jY hb;clear hb HSC HFULL HSB;go_wp2_with fail;refine HSC1.out.mono ?_;rintro e w2 ⟨rfl,hb⟩;have hb2:=HB1.out.trans (hb.mono HB1.out.size);have HFIT2:=HFIT w2 hb2;have HB2:=jY hb2;clear hb hb2 HFIT HSC1 e0;go_wp2_with fail;refine HFIT2.out.mono ?_;rintro e w3 ⟨rfl,l,p,q,D,L,m,n,hL,hown,hf⟩;have e3:=(Zh hL.blk).1.1;have hb4:=Z5 w3 (.cells #[.string k,.int .i64 sc] 107);have HPUT4:=HPUT _ l p q D L m n (hL.later hb4) _ (M6 w3 k sc);have HF4:=jY ((show Far (fun k=>k=s) w w2 from Far.of_below HB2.out).trans (hf.then_below hb4) (fun k hk=>.inl hk));have HOW:=jY (show ∀ k,Ug l p L D k->w.heap.size<=k from fun k hk=>Nat.le_trans HB2.out.size (hown k hk));clear hL hown hf hb4 HPUT HFIT2;go_wp2_with fail;refine HPUT4.out.mono ?_;rintro e w5 ⟨rfl,D5,L5,m5,n5,h5,hs5⟩
 have HR:=jY (show ∃ l p q D L m n,LSet w5 s l p q D L m n le lm sd (c+1) (Xv E k sc)/\(∀ k,Ug l p L D k->w.heap.size<=k)/\Far (fun k=>k=s) w w5 from
  ⟨l,p,q,D5,L5,m5,n5,h5,fun k hk=>by
    rcases hs5.new k hk with h|h
    ·exact HOW.out k h
    ·exact Nat.le_trans HF4.out.size h,HF4.out.trans hs5.far (fun k hk=>.inr (HOW.out k hk))⟩)
 clear h5 hs5 HPUT4;go_wp2_with fail;go_ret2;exact ⟨rfl,HR.out⟩
theorem Fu(h:LSet w s l p q D L m n le lm sd c E)(h4:E.length<400)(hc:c+1<=10000)(k:ByteArray)(sc lv:Int)(hk:k.size<=64)(hs:Pk.Yl sc)(hlv:1<=lv/\lv<=32){i:Nat}(hq:whE E k=some i) :
 Calls Tryz.prog 53 #[.pointer (some ⟨s,0,none⟩),.string k,.int .i64 sc,.int .i64 lv] w fun e w'=>e=.returned (.tuple #[.bool false,.int .i64 0])/\∃ D1 L1 m1 n1,LSet w' s l p q D1 L1 m1 n1 le lm sd (c+1) (Xv E k sc)/\LStep w w' l p L D L1 D1:=by
 have HFULL:=jY (z6v h h4 k);have hmg:=z2n h.map k;rw [hq] at hmg;obtain ⟨v,hv,hi⟩:=hmg;have hnc:=h.n;have hcap:=h.good.cap;have HSC:=fun W (hb:Bl w W)=>jY (z2m (h.later hb).li (by omega) k (by omega));rw [hv] at HSC;have HLS:=fun W W' (hb:Bl w W) (hn:Dc.IsNow D W q sd m n.step1 W')=>jY (And.intro ((h.later hb).dict hn (by rw [z3b];exact hnc)) ((show LStep w W l p L D L D from LStep.below hb).trans (LStep.dict hn)));have HDEL:=fun W D1 n1 (h1:LSet W s l p q D1 L m n1 le lm sd c E)=>jY (z7g h1.li h1.lenN (by rw [h1.en];exact h1.good.dist) (k,v) (by rw [h1.en];exact List.mem_of_getElem? hi));have HSB:=fun W (hb:Bl w W)=>jY (Zh (h.blk.later hb)).1.1;have HPUT:=fun W D3 L3 n3 (hblk:Blk W s 127 (Id (.iface 211 (.pointer (some ⟨l,0,none⟩))) le lm sd)) (hL:LAt W l p q D3 sd L3 m n3) (he:L3.map en=rmE E k) (hn:n3.n<=c) v (hr:Row W 0 v [(k,sc)])=>jY (z0f hblk hL k sc he h.map hn h.good hc hk hs lv hlv v hr);have h1:¬ (64:Int)<k.size:=by omega
 have h2:¬ lv<1:=by omega
 have h3:¬ 32<lv:=by omega
 clear h hq hv hi hnc hcap hk hs hlv hc h4
 go_enter Tryz.func53,Tryz.ntmps53
 go_wp2_with fail;refine HFULL.out.mono ?_;rintro e w1 ⟨rfl,hb⟩;have HSC1:=HSC w1 hb;have HLS1:=HLS w1;have e0:=(HSB w1 hb).out;have HB1:=jY hb;clear hb HSC HFULL HSB HLS;go_wp2_with fail;refine HSC1.out.mono ?_;rintro e w2 ⟨rfl,hn⟩;obtain ⟨hL2,hs2⟩:=(HLS1 w2 HB1.out hn).out;have e2:=(Zh hL2.blk).1.1;have hme:=Co (Zd hL2.li.blk).1;have HDEL2:=HDEL w2 _ _ hL2;have HL2:=jY hL2;have HS2:=jY hs2;clear hn hL2 hs2 HSC1 HLS1 HDEL e0;go_wp2_with fail;refine HDEL2.out.mono ?_;rintro e w3 ⟨rfl,L3,he3,hL3,hs3⟩;rw [HL2.out.en] at he3;have hblk3:=HL2.out.blk_step hs3;have e3:=(Zh hblk3).1.1;have hb4:=Z5 w3 (.cells #[.string k,.int .i64 sc] 107);have HPUT4:=HPUT _ _ L3 _ (hblk3.later hb4) (hL3.later hb4) he3 HL2.out.n _ (M6 w3 k sc);have HS4:=jY ((HS2.out.trans hs3).trans (LStep.below hb4));clear he3 hL3 hs3 hblk3 hb4 HPUT HDEL2 e2 hme HL2;go_wp2_with fail;refine HPUT4.out.mono ?_;rintro e w5 ⟨rfl,D5,L5,m5,n5,h5,hs5⟩;have HR:=jY (show ∃ D1 L1 m1 n1,LSet w5 s l p q D1 L1 m1 n1 le lm sd (c+1) (Xv E k sc)/\LStep w w5 l p L D L1 D1 from ⟨D5,L5,m5,n5,h5,HS4.out.trans hs5⟩);clear h5 hs5 HPUT4;go_wp2_with fail;go_ret2;exact ⟨rfl,HR.out⟩
theorem z0e(h:LSet w s l p q D L m n le lm sd c E)(h4:E.length<400)(hc:c+1<=10000)(k:ByteArray)(sc lv:Int)(hk:k.size<=64)(hs:Pk.Yl sc)(hlv:1<=lv/\lv<=32)(hq:whE E k=none) :
 Calls Tryz.prog 53 #[.pointer (some ⟨s,0,none⟩),.string k,.int .i64 sc,.int .i64 lv] w fun e w'=>e=.returned (.tuple #[.bool true,.int .i64 0])/\∃ D1 L1 m1 n1,LSet w' s l p q D1 L1 m1 n1 le lm sd (c+1) (Xv E k sc)/\LStep w w' l p L D L1 D1:=by
 have HFULL:=jY (z6v h h4 k);have hmg:=z2n h.map k;rw [hq] at hmg;simp only at hmg;have hnc:=h.n;have hcap:=h.good.cap;have hrm:=Vb (Vt hq);have HSC:=fun W (hb:Bl w W)=>jY (z2m (h.later hb).li (by omega) k (by omega));rw [hmg] at HSC;have HLS:=fun W W' (hb:Bl w W) (hn:Dc.IsNow D W q sd m n.step1 W')=>jY (And.intro ((h.later hb).dict hn (by rw [z3b];exact hnc)) ((show LStep w W l p L D L D from LStep.below hb).trans (LStep.dict hn)));have HSB:=fun W (hb:Bl w W)=>jY (Zh (h.blk.later hb)).1.1;have HPUT:=fun W D3 n3 (hL:LSet W s l p q D3 L m n3 le lm sd c E) v (hr:Row W 0 v [(k,sc)])=>jY (z0f hL.blk hL.li k sc (by rw [hrm];exact hL.en) hL.map hL.n hL.good hc hk hs lv hlv v hr);have h1:¬ (64:Int)<k.size:=by omega
 have h2:¬ lv<1:=by omega
 have h3:¬ 32<lv:=by omega
 clear h hq hmg hnc hcap hk hs hlv hc h4 hrm
 go_enter Tryz.func53,Tryz.ntmps53
 go_wp2_with fail;refine HFULL.out.mono ?_;rintro e w1 ⟨rfl,hb⟩;have HSC1:=HSC w1 hb;have HLS1:=HLS w1;have e0:=(HSB w1 hb).out;have HB1:=jY hb;clear hb HSC HFULL HSB HLS;go_wp2_with fail;refine HSC1.out.mono ?_;rintro e w2 ⟨rfl,hn⟩;obtain ⟨hL2,hs2⟩:=(HLS1 w2 HB1.out hn).out;have HFIT:=jY (y4n hL2.blk k);have HL2:=jY hL2;have HS2:=jY hs2;clear hn hL2 hs2 HSC1 HLS1 e0;go_wp2_with fail;refine HFIT.out.mono ?_;rintro e w3 ⟨rfl,hb⟩;have e3:=(Zh (HL2.out.later hb).blk).1.1;have hb4:=hb.trans ((Z5 w3 (.cells #[.string k,.int .i64 sc] 107)).mono hb.size);have HPUT4:=HPUT _ _ _ (HL2.out.later hb4) _ (M6 w3 k sc);have HS4:=jY (HS2.out.trans (LStep.below hb4));clear hb hb4 HPUT HFIT HL2;go_wp2_with fail;refine HPUT4.out.mono ?_;rintro e w5 ⟨rfl,D5,L5,m5,n5,h5,hs5⟩;have HR:=jY (show ∃ D1 L1 m1 n1,LSet w5 s l p q D1 L1 m1 n1 le lm sd (c+1) (Xv E k sc)/\LStep w w5 l p L D L1 D1 from ⟨D5,L5,m5,n5,h5,HS4.out.trans hs5⟩);clear h5 hs5 HPUT4;go_wp2_with fail;go_ret2;exact ⟨rfl,HR.out⟩
end Go.Proofs.YtmehfohpjigmmaaGreatDoor

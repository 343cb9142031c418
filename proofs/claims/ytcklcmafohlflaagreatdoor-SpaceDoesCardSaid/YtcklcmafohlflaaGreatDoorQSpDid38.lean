/- Texts of one kind in one: SpDid, SpDidPut, SpDidAdd, SpDidMake, SpDidTidy, SpOpen. -/
import Derived.Test.YtcklcmafohlflaaGreatDoorQZName37
import Derived.Lib.SmallJoins
set_option maxRecDepth 200000
set_option maxHeartbeats 8000000
namespace Go.Proofs.YtcklcmafohlflaaGreatDoor
open Zc (Ent Ext KeepC Ym Z9 Zg Xg Zx Zb Zv Yo Y5 Ze Zz Z4 Zd)
open Go.RowKit Go.Shelf Sk
attribute [local go_sem] Oper.semAt_some
theorem x3s(W:World)(n0:Nat):OwnR W n0 (.slice none 0 0) []:=⟨rfl,.inl ⟨rfl,rfl⟩⟩
def DidAt(w0 W W':World)(p rp:Nat)(en mn:Int)(sd:Nat)(mx:Int)(c:Nat)(G:List It->Prop):Prop:=∃ c' L' R',c<=c'/\c'<=c+1/\PairSp w0 W' p rp en mn sd mx c' L' R'/\Alike en mn L' R'/\KeepB W W'/\G (itl L')
theorem KeepB.trans{W W1 W2:World}(h:KeepB W W1)(g:KeepB W1 W2):KeepB W W2:=fun b t c h1 h2 hb=>g b t c h1 h2 (h b t c h1 h2 hb)
theorem KeepB.below{W W1:World}(h:Bl W W1):KeepB W W1:=fun _ _ _ _ _ hb=>hb.later h
section
variable {w0 W W':World} {p rp sd c:Nat} {en mn mx:Int} {L:List Th} {R:List Rt}
theorem x7o(h:PairSp w0 W p rp en mn sd mx c L R)(hA:Alike en mn L R)(d:Int)(k t m:ByteArray)(sc n dr:Int)(hk0:k.size<=9223372036854775807)(hkd:(IntKind.u64.wrap d).tmod 10=4) :
 Calls Tryz.prog 6 #[.pointer (some ⟨p,0,none⟩),.pointer (some ⟨rp,0,none⟩),Kd d k t m sc n dr] W fun e W'=>e=.returned (.bool true)/\DidAt w0 W W' p rp en mn sd mx c (fun I=>OffI (itl L) I (Zf k) (Zf t)):=by
 obtain ⟨G,hG⟩:∃ G:List It->Prop,(fun I=>OffI (itl L) I (Zf k) (Zf t))=G:=⟨_,rfl⟩;have HGO:Hid (G (itl (Yl L (Zf k)))):=jY (by rw [<- hG];exact y5q h.keys);rw [hG];clear hG;have hb:=Z0 W (.cells #[.int .i64 d,.string k,.string t,.string m,.int .i64 sc,.int .i64 n,.int .u32 dr] 37);have kx:=Blk.new W 37 #[.int .i64 d,.string k,.string t,.string m,.int .i64 sc,.int .i64 n,.int .u32 dr];have HK:=fun W=>jY (V5 k hk0 W);have hk70:=Xl k;have h1:=h.later hb;have hth:=hA.there (Zf k);have HD:=jY (z8l h1.pair (Zf k) (by omega));have HR:=jY (fun W' (g:PairSp w0 W' p rp en mn sd mx c (Yl L (Zf k)) R)=>z5i g hA.rksz (Zf k) (by omega));have HA:=jY (fun (hk:Y6 (itl (Yl L (Zf k))))=>hA.del (Zf k) hk);have HKP:=jY h1.keep;rw [hth] at HD;have a0:=kx.cell 0;have a1:=kx.cell 1;simp at a0 a1;unfold Kd;generalize Zf k=kk at *;clear h h1 hA hb hth
 go_enter Tryz.func6,Tryz.ntmps6
 go_wp2_with fail;refine (HK _).out.mono ?_;rintro e w2 ⟨rfl,rfl⟩;go_wp2_with fail;refine HD.out.mono ?_;rintro e w3 ⟨rfl,h3⟩;have HR3:=jY (HR.out w3 h3.pair);have HK3:=jY (HA.out h3.pair.keys);have HKE:=jY (HKP.out.trans h3.keep);clear h3 HD HR HA HKP HK;go_wp2_with fail;refine HR3.out.mono ?_;rintro e w4 ⟨rfl,h4⟩;have HX:=jY (show DidAt w0 W w4 p rp en mn sd mx c G from ⟨c,_,_,lAd _,Nat.le_succ _,h4.pair,HK3.out,HKE.out.trans h4.keep,HGO.out⟩);clear h4 HR3 HK3 HKE;go_wp2_with fail;go_ret;exact ⟨by simp,HX.out⟩
theorem x7q(h:PairSp w0 W p rp en mn sd mx c L R)(hA:Alike en mn L R)(d:Int)(k t m:ByteArray)(sc n dr:Int)(hk0:k.size<=9223372036854775807)(ht0:t.size<=9223372036854775807)(hkd:(IntKind.u64.wrap d).tmod 10=6) :
 Calls Tryz.prog 6 #[.pointer (some ⟨p,0,none⟩),.pointer (some ⟨rp,0,none⟩),Kd d k t m sc n dr] W fun e W'=>e=.returned (.bool true)/\DidAt w0 W W' p rp en mn sd mx c (fun I=>OffI (itl L) I (Zf k) (Zf t)):=by
 obtain ⟨G,hG⟩:∃ G:List It->Prop,(fun I=>OffI (itl L) I (Zf k) (Zf t))=G:=⟨_,rfl⟩;have HGO:Hid (∀ L',Ki L (Zf k) (Zf t) L'->G (itl L')):=jY (by rw [<- hG];exact fun L' hm=>x8z h.keys hm);rw [hG];clear hG;have hb:=Z0 W (.cells #[.int .i64 d,.string k,.string t,.string m,.int .i64 sc,.int .i64 n,.int .u32 dr] 37);have kx:=Blk.new W 37 #[.int .i64 d,.string k,.string t,.string m,.int .i64 sc,.int .i64 n,.int .u32 dr];have HK:=fun W=>jY (V5 k hk0 W);have hk70:=Xl k;have h1:=h.later hb;have HKP:=jY h1.keep;have HX:=jY kx;have HT:=fun W=>jY (V5 t ht0 W);have ht70:=Xl t;have HD:=jY (z8n (h1.pair.later (Zk _ 1)).pair (Zf k) (Zf t) (by omega) (by omega));have HR:=jY (fun W' L' (g:PairSp w0 W' p rp en mn sd mx c L' R)=>z5k g hA.rksz (Zf k) (Zf t) (by omega) (by omega));have HA:=jY (fun L' R' hm hr (hk:Y6 (itl L'))=>hA.renTo (L':=L') (R':=R') (f:=Zf k) (k:=Zf t) hm hr hk);rw [hA.ren] at HD;have a0:=kx.cell 0;have a1:=kx.cell 1;have S0:=jY (show (W.alloc (.cells #[.int .i64 d,.string k,.string t,.string m,.int .i64 sc,.int .i64 n,.int .u32 dr] 37)).cell? ⟨W.heap.size,2,none⟩=some (.string t) from kx.cell 2);simp at a0 a1;unfold Kd;generalize Zf k=kk at *;generalize Zf t=tt at *;generalize C6 R kk tt=z at *;clear h h1 hA hb kx
 go_enter Tryz.func6,Tryz.ntmps6
 go_wp2_with fail;refine (HK _).out.mono ?_;rintro e w2 ⟨rfl,rfl⟩;go_wp2_with fail
 refine Sched.Yj [(0,true),(1,true),(2,true),(3,true),(6,true),(7,true),(8,true),(9,true),(4,false),(5,false),(10,false),(11,false),(12,true),(13,true)]
  (fun V=>V.cell? ⟨W.heap.size,2,none⟩=some (.string t)) (by kernel_rfl) (by kernel_rfl) rfl (by kernel_rfl) (fun _ _ _ d _ h=>by cases d <;> exact h) S0.out ?_
 intro L0 hL;simp only [Sched.Qw,List.getElem?_toArray,List.getElem?_cons_zero,List.getElem?_cons_succ] at hL;subst hL
 repeat (first
  | (refine Sched.Zj (v:=?_) (by rfl) ?_ ?_
     rotate_left
     (focus (intro w' hSw;go_simp;(try with_reducible rfl);done))
     simp only [Act.put,List.setIfInBounds_toArray,List.set_cons_zero,List.set_cons_succ]))
 refine Sched.Zo (by rfl) fun K' hK=>?_
 go_simp
 refine (HT _).out.mono ?_;rintro e w2 ⟨rfl,rfl⟩
 go_simp
 refine hK _ _ S0.out ?_;clear hK K';refine Sched.Zo (by rfl) fun K' hK=>?_
 go_simp
 refine HD.out.mono ?_;rintro e w3 ⟨L',rfl,h3,hm3⟩;have HR3:=jY (HR.out w3 L' h3.pair);have HK3:=jY (fun R' hr=>HA.out L' R' hm3 hr h3.pair.keys);have HG3:=jY (HGO.out L' hm3);have HKE:=jY (HKP.out.trans h3.keep);have HX3:=jY (h3.keep _ _ _ (by decide) (by decide) HX.out);have b2:=HX3.out.cell 2;simp at b2;clear h3 hm3 HD HR HA HKP HK a0 a1 S0
 go_simp
 refine hK _ _ b2 ?_;clear hK K';refine Sched.Zo (by rfl) fun K' hK=>?_
 go_simp
 refine (HT _).out.mono ?_;rintro e w4 ⟨rfl,rfl⟩
 go_simp
 refine hK _ _ b2 ?_;clear hK K';refine Sched.Zo (by rfl) fun K' hK=>?_
 go_simp
 refine HR3.out.mono ?_;rintro e w5 ⟨R',rfl,h4,hr4⟩;have HE:=jY (show DidAt w0 W w5 p rp en mn sd mx c G from ⟨c,L',R',lAd _,Nat.le_succ _,h4.pair,HK3.out R' hr4,HKE.out.trans h4.keep,HG3.out⟩);have b3:=(h4.keep _ _ _ (by decide) (by decide) HX3.out).cell 2;simp at b3;clear h4 hr4 HR3 HK3 HKE HT b2
 go_simp
 refine hK _ _ b3 ?_;clear hK K'
 repeat (first
  | (refine Sched.Zj (v:=?_) (by rfl) ?_ ?_
     rotate_left
     (focus (intro w' hSw;go_simp;(try with_reducible rfl);done))
     simp only [Act.put,List.setIfInBounds_toArray,List.set_cons_zero,List.set_cons_succ]))
 refine Sched.Xf ?_;clear b3 HX3;go_wp2_with fail;go_ret;exact ⟨by simp,HE.out⟩
theorem y6y(h:PairSp w0 W p rp en mn sd mx c L R)(hA:Alike en mn L R)(d:Int)(k t m:ByteArray)(sc n dr:Int)(hk0:k.size<=9223372036854775807)(hn:Lf.I64 n)(hd1:0<=dr)(hd2:dr<=4294967295)(hkd:(IntKind.u64.wrap d).tmod 10=7) :
 Calls Tryz.prog 6 #[.pointer (some ⟨p,0,none⟩),.pointer (some ⟨rp,0,none⟩),Kd d k t m sc n dr] W fun e W'=>e=.returned (.bool true)/\DidAt w0 W W' p rp en mn sd mx c (fun I=>OffI (itl L) I (Zf k) (Zf t)):=by
 obtain ⟨G,hG⟩:∃ G:List It->Prop,(fun I=>OffI (itl L) I (Zf k) (Zf t))=G:=⟨_,rfl⟩;have HGO:Hid (∀ z L',M9 L (Zf k) n dr z L'->G (itl L')):=jY (by rw [<- hG];exact fun z L' hm=>y8b h.keys h.qs hm);rw [hG];clear hG;have hb:=Z0 W (.cells #[.int .i64 d,.string k,.string t,.string m,.int .i64 sc,.int .i64 n,.int .u32 dr] 37);have kx:=Blk.new W 37 #[.int .i64 d,.string k,.string t,.string m,.int .i64 sc,.int .i64 n,.int .u32 dr];have HK:=fun W=>jY (V5 k hk0 W);have hk70:=Xl k;have h1:=h.later hb;have HKP:=jY h1.keep;have HX:=jY kx;have HD:=jY (y2w (h1.pair.later (Zk _ 1)).pair (Zf k) (by omega) n dr hn hd1 hd2);have HR:=jY (fun W' L' (g:PairSp w0 W' p rp en mn sd mx c L' R)=>z8o g (Zf k) n dr hn hd1 hd2);have HA:=jY (fun (a b:Int) L' R' hm hr (hk:Y6 (itl L'))=>hA.touch (L':=L') (R':=R') (k:=Zf k) (now:=n) (d:=dr) (n:=a) (m:=b) h.qs hm hr hk);have a0:=kx.cell 0;have a1:=kx.cell 1;have S0:=jY (show (W.alloc (.cells #[.int .i64 d,.string k,.string t,.string m,.int .i64 sc,.int .i64 n,.int .u32 dr] 37)).cell? ⟨W.heap.size,5,none⟩=some (.int .i64 n)/\(W.alloc (.cells #[.int .i64 d,.string k,.string t,.string m,.int .i64 sc,.int .i64 n,.int .u32 dr] 37)).cell? ⟨W.heap.size,6,none⟩=some (.int .u32 dr) from ⟨kx.cell 5,kx.cell 6⟩);simp at a0 a1;unfold Kd;generalize Zf k=kk at *;clear h h1 hA hb kx hn hd1 hd2
 go_enter Tryz.func6,Tryz.ntmps6
 go_wp2_with fail;refine (HK _).out.mono ?_;rintro e w2 ⟨rfl,rfl⟩;go_wp2_with fail
 refine Sched.Yj [(0,true),(1,true),(2,true),(3,true),(4,true),(5,true),(7,true),(8,true),(9,true),(10,true),(11,true),(12,true),(6,false),(13,false),(14,true),(15,true)]
  (fun V=>V.cell? ⟨W.heap.size,5,none⟩=some (.int .i64 n)/\V.cell? ⟨W.heap.size,6,none⟩=some (.int .u32 dr)) (by kernel_rfl) (by kernel_rfl) rfl (by kernel_rfl) (fun _ _ _ d _ h=>by cases d <;> exact h) S0.out ?_
 intro L0 hL;simp only [Sched.Qw,List.getElem?_toArray,List.getElem?_cons_zero,List.getElem?_cons_succ] at hL;subst hL
 repeat (first
  | (refine Sched.Zj (v:=?_) (by rfl) ?_ ?_
     rotate_left
     (focus (intro w' hSw;obtain ⟨l0,l1⟩:=hSw;go_simp;(try with_reducible rfl);done))
     simp only [Act.put,List.setIfInBounds_toArray,List.set_cons_zero,List.set_cons_succ]))
 refine Sched.Zo (by rfl) fun K' hK=>?_
 go_simp
 refine HD.out.mono ?_;rintro e w3 ⟨z1,L',rfl,h3,hm3⟩;have HR3:=jY (HR.out w3 L' h3.pair);have HK3:=jY (fun z2 R' hr=>HA.out z1 z2 L' R' hm3 hr h3.pair.keys);have HG3:=jY (HGO.out z1 L' hm3);have HKE:=jY (HKP.out.trans h3.keep);have kx3:=h3.keep _ _ _ (by decide) (by decide) HX.out;have HX3:=jY kx3;have S3:=jY (show w3.cell? ⟨W.heap.size,5,none⟩=some (.int .i64 n)/\w3.cell? ⟨W.heap.size,6,none⟩=some (.int .u32 dr) from ⟨kx3.cell 5,kx3.cell 6⟩);clear h3 hm3 HD HR HA HKP HK HX a0 a1 S0 kx3
 go_simp
 refine hK _ _ S3.out ?_;clear hK K';refine Sched.Zo (by rfl) fun K' hK=>?_
 go_simp
 refine HR3.out.mono ?_;rintro e w5 ⟨z2,R',rfl,h4,hr4⟩;obtain ⟨rfl,hal⟩:=HK3.out z2 R' hr4;have HE:=jY (show DidAt w0 W w5 p rp en mn sd mx c G from ⟨c,L',R',lAd _,Nat.le_succ _,h4.pair,hal,HKE.out.trans h4.keep,HG3.out⟩);have kx5:=h4.keep _ _ _ (by decide) (by decide) HX3.out;have S5:=jY (show w5.cell? ⟨W.heap.size,5,none⟩=some (.int .i64 n)/\w5.cell? ⟨W.heap.size,6,none⟩=some (.int .u32 dr) from ⟨kx5.cell 5,kx5.cell 6⟩);clear h4 hr4 HR3 HK3 HKE hal S3 HX3 kx5
 go_simp
 refine hK _ _ S5.out ?_;clear hK K'
 repeat (first
  | (refine Sched.Zj (v:=?_) (by rfl) ?_ ?_
     rotate_left
     (focus (intro w' hSw;obtain ⟨l0,l1⟩:=hSw;go_simp;(try with_reducible rfl);done))
     simp only [Act.put,List.setIfInBounds_toArray,List.set_cons_zero,List.set_cons_succ]))
 refine Sched.Xf ?_;clear S5;go_wp2_with fail;go_ret;exact ⟨by simp,HE.out⟩
theorem x1w(h:PairSp w0 W p rp en mn sd mx c L R)(hA:Alike en mn L R)(d:Int)(k t m:ByteArray)(sc n dr:Int)(hk0:k.size<=9223372036854775807)(hkd:(IntKind.u64.wrap d).tmod 10=8) :
 Calls Tryz.prog 6 #[.pointer (some ⟨p,0,none⟩),.pointer (some ⟨rp,0,none⟩),Kd d k t m sc n dr] W fun e W'=>e=.returned (.bool true)/\DidAt w0 W W' p rp en mn sd mx c (fun I=>OffI (itl L) I (Zf k) (Zf t)):=by
 obtain ⟨G,hG⟩:∃ G:List It->Prop,(fun I=>OffI (itl L) I (Zf k) (Zf t))=G:=⟨_,rfl⟩;have HGO:Hid (G (itl L)):=jY (by rw [<- hG];exact .refl);rw [hG];clear hG;have hb:=Z0 W (.cells #[.int .i64 d,.string k,.string t,.string m,.int .i64 sc,.int .i64 n,.int .u32 dr] 37);have kx:=Blk.new W 37 #[.int .i64 d,.string k,.string t,.string m,.int .i64 sc,.int .i64 n,.int .u32 dr];have HK:=fun W=>jY (V5 k hk0 W);have h1:=h.later hb;have HKP:=jY h1.keep;have HD:=fun q=>jY (y8g h1.pair q);have HA:=jY hA;have a0:=kx.cell 0;have a1:=kx.cell 1;have a5:=kx.cell 5;simp at a0 a1 a5;unfold Kd;clear h h1 hA hb kx
 go_enter Tryz.func6,Tryz.ntmps6
 go_wp2_with fail;refine (HK _).out.mono ?_;rintro e w2 ⟨rfl,rfl⟩;go_wp2_with fail;refine (HD _).out.mono ?_;rintro e w3 ⟨r,rfl,h3⟩;have HE:=jY (show DidAt w0 W w3 p rp en mn sd mx c G from ⟨c,L,R,lAd _,Nat.le_succ _,h3.pair,HA.out,HKP.out.trans h3.keep,HGO.out⟩);clear h3 HD HA HKP HK;go_wp2_with fail;go_ret;exact ⟨rfl,HE.out⟩
theorem y8k(h:PairSp w0 W p rp en mn sd mx c L R):∃ rv,W.cell? ⟨rp,0,none⟩=some rv/\W.frozen? ⟨rp,0,none⟩=false/\PairK w0 W (W.setCell ⟨rp,0,none⟩ (.slice none 0 0)) p rp en mn sd mx c L []:=by
 obtain ⟨S,T,h1,h2,h3,h4⟩:=h.ex;obtain ⟨rv,hb,_⟩:=h2.keys;exact ⟨rv,hb.cell 0,hb.free 0,h.ref h1 h2 h3 h4 (h2.put (Below.refl _ _) (x3s _ _) (by simp) (fun x hx=>by cases hx) List.nodup_nil fun x hx=>by cases hx)⟩
theorem z1l:Alike en mn [] []:=⟨List.nodup_nil,.refl _,(fun x hx=>by cases hx),(fun x hx=>by cases hx),List.Pairwise.nil⟩
theorem x1v(h:PairSp w0 W p rp en mn sd mx c L R)(hA:Alike en mn L R)(d:Int)(k t m:ByteArray)(sc n dr:Int)(hk0:k.size<=9223372036854775807)(hkd:(IntKind.u64.wrap d).tmod 10=9) :
 Calls Tryz.prog 6 #[.pointer (some ⟨p,0,none⟩),.pointer (some ⟨rp,0,none⟩),Kd d k t m sc n dr] W fun e W'=>e=.returned (.bool true)/\DidAt w0 W W' p rp en mn sd mx c (fun _=>True):=by
 have hb:=Z0 W (.cells #[.int .i64 d,.string k,.string t,.string m,.int .i64 sc,.int .i64 n,.int .u32 dr] 37);have kx:=Blk.new W 37 #[.int .i64 d,.string k,.string t,.string m,.int .i64 sc,.int .i64 n,.int .u32 dr];have HK:=fun W=>jY (V5 k hk0 W);have h1:=h.later hb;have HKP:=jY h1.keep;have HD:=jY (y2v h1.pair);have HN:=jY (show DidAt w0 W (W.alloc (.cells #[.int .i64 d,.string k,.string t,.string m,.int .i64 sc,.int .i64 n,.int .u32 dr] 37)) p rp en mn sd mx c (fun _=>True) from ⟨c,L,R,lAd _,Nat.le_succ _,h1.pair,hA,h1.keep,trivial⟩);have a0:=kx.cell 0;have a1:=kx.cell 1;have a6:=kx.cell 6;simp at a0 a1 a6;unfold Kd;clear h h1 hA hb kx
 by_cases h8:dr.tmod 8=0
 ·go_enter Tryz.func6,Tryz.ntmps6
  go_wp2_with fail;refine (HK _).out.mono ?_;rintro e w2 ⟨rfl,rfl⟩;go_wp2_with fail;refine HD.out.mono ?_;rintro e w3 ⟨rfl,h3⟩;obtain ⟨rv,c0,f0,hn⟩:=y8k h3.pair;have HE:=jY (show DidAt w0 W (w3.setCell ⟨rp,0,none⟩ (.slice none 0 0)) p rp en mn sd mx c (fun _=>True) from ⟨c,[],[],lAd _,Nat.le_succ _,hn.pair,z1l,(HKP.out.trans h3.keep).trans hn.keep,trivial⟩);clear h3 HD HKP HK HN hn;go_wp2_with fail;go_ret;exact ⟨rfl,HE.out⟩
 ·go_enter Tryz.func6,Tryz.ntmps6
  go_wp2_with fail;refine (HK _).out.mono ?_;rintro e w2 ⟨rfl,rfl⟩;go_wp2_with fail;go_ret;exact ⟨rfl,HN.out⟩
end
theorem y1x{I:List It}{x:It}(hk:Y6 I)(hno:Xy I x.key=none):Y6 (I++[x]):=by
 unfold Y6 at *;rw [List.map_append,List.nodup_append];refine ⟨hk,by simp,fun a ha b hb e=>?_⟩;obtain ⟨y,hy,rfl⟩:=List.mem_map.1 ha;simp at hb;subst hb;exact Pd hno y hy e
theorem x2d(m:ByteArray)(sc:Int)(j:Nat):∀ e∈Gs m sc j,e.1.size<=281474976710656:=fun e he=>by
 unfold Gs at he;obtain ⟨i,_,rfl⟩:=List.mem_map.1 he
 have:=Xl m
 simp only [ByteArray.size_extract];omega
section
variable {w0 W W':World} {p rp sd c:Nat} {en mn mx:Int} {L:List Th} {R:List Rt}
theorem x7p(h:PairSp w0 W p rp en mn sd mx c L R)(hA:Alike en mn L R)(hc5:5<=c)(hc:c<=10000)(d:Int)(k t m:ByteArray)(sc n dr:Int)(hk0:k.size<=9223372036854775807)(hm0:m.size<=9223372036854775807)(hsc:Pk.Ya sc)(hn:Lf.I64 n)(hkd:(IntKind.u64.wrap d).tmod 10=3) :
 Calls Tryz.prog 6 #[.pointer (some ⟨p,0,none⟩),.pointer (some ⟨rp,0,none⟩),Kd d k t m sc n dr] W fun e W'=>e=.returned (.bool true)/\DidAt w0 W W' p rp en mn sd mx c (fun I=>OffI (itl L) I (Zf k) (Zf t)):=by
 obtain ⟨G,hG⟩:∃ G:List It->Prop,(fun I=>OffI (itl L) I (Zf k) (Zf t))=G:=⟨_,rfl⟩;have hb:=Z0 W (.cells #[.int .i64 d,.string k,.string t,.string m,.int .i64 sc,.int .i64 n,.int .u32 dr] 37);have kx:=Blk.new W 37 #[.int .i64 d,.string k,.string t,.string m,.int .i64 sc,.int .i64 n,.int .u32 dr];have HK:=fun W=>jY (V5 k hk0 W);have HEN:=fun W=>jY (Ks d k t m sc n dr hm0 W);have hk70:=Xl k;have h1:=h.later hb;have HKP:=jY h1.keep;have HX:=jY kx;have hl5:(Gs m sc (A6 n)).length<=5:=by rw [z7c];unfold A6;omega
 have hls:∀ e∈Gs m sc (A6 n),Pk.Ya e.2:=fun e he=>by
  unfold Gs at he;obtain ⟨i,_,rfl⟩:=List.mem_map.1 he;exact hsc
 have hlz:=x2d m sc (A6 n);generalize Gs m sc (A6 n)=l at *;have HCV:=jY (fun (V:World) (g:Blk V W.heap.size 37 #[.int .i64 d,.string k,.string t,.string m,.int .i64 sc,.int .i64 n,.int .u32 dr])=>show V.cell? ⟨W.heap.size,0,none⟩=some (.int .i64 d)/\V.cell? ⟨W.heap.size,1,none⟩=some (.string k)/\V.cell? ⟨W.heap.size,2,none⟩=some (.string t)/\V.cell? ⟨W.heap.size,3,none⟩=some (.string m)/\V.cell? ⟨W.heap.size,4,none⟩=some (.int .i64 sc)/\V.cell? ⟨W.heap.size,5,none⟩=some (.int .i64 n)/\V.cell? ⟨W.heap.size,6,none⟩=some (.int .u32 dr) from ⟨g.cell 0,g.cell 1,g.cell 2,g.cell 3,g.cell 4,g.cell 5,g.cell 6⟩);have HD:=jY (fun W1 (hb1:Below (W.alloc (.cells #[.int .i64 d,.string k,.string t,.string m,.int .i64 sc,.int .i64 n,.int .u32 dr] 37)).heap.size (W.alloc (.cells #[.int .i64 d,.string k,.string t,.string m,.int .i64 sc,.int .i64 n,.int .u32 dr] 37)) W1) n0 v (hr:Row W1 n0 v l)=>x4k (h1.pair.later hb1).pair hc (Zf k) (by omega) (by omega) (by omega) hls hr n hn);have HR:=jY (fun W1 L' (g:PairSp w0 W1 p rp en mn sd mx c L' R) n0 v (hr:Row W1 n0 v l)=>y8l g hA.rksz (Zf k) (by omega) n (by omega) hlz hls hr);have HA:=jY (fun L' R' hm hr (hk1:Y6 (itl L')) (hq:(L'.map Th.q).Nodup) hkn=>hA.put (L':=L') (R':=R') (k:=Zf k) (now:=n) (l:=l) (by omega) hls hm hr hk1 hq hkn)
 have HKN:=jY (fun (L1:List Th) (t1:Th) (e:L1=L++[t1]) (hno:Y4 L (Zf k)=none) (hkk:t1.key=Zf k)=>show Y6 (itl L1) from by
  have e1:itl (L++[t1])=itl L++[t1.toIt]:=by unfold itl;simp
  rw [e,e1];refine y1x hA.keys ?_;rw [show t1.toIt.key=Zf k from hkk]
  have:=Qd L (Zf k)
  rw [hno] at this
  simpa using this)
 have HGO:Hid (∀ L',z1k en mn L (Zf k) l n L'->(L'.map Th.q).Nodup->G (itl L')):=jY (by rw [<- hG];exact fun L' hm hq=>x8y h.keys HKN.out hm hq);rw [hG];clear hG;have HAE:=jY (hA.made (Zf k) n);have a0:=kx.cell 0;have a1:=kx.cell 1;simp at a0 a1;unfold Kd at *;generalize Zf k=kk at *
 go_enter Tryz.func6,Tryz.ntmps6
 go_wp2_with fail;refine (HK _).out.mono ?_;rintro e w2 ⟨rfl,rfl⟩;go_wp2_with fail;have S0:=jY (HCV.out _ HX.out)
 refine Sched.Yj [(0,true),(1,true),(2,true),(4,true),(5,true),(7,true),(8,true),(9,true),(11,true),(12,true),(3,false),(6,false),(10,false),(13,false),(14,true),(15,true)]
  (fun V=>V.cell? ⟨W.heap.size,0,none⟩=some (.int .i64 d)/\V.cell? ⟨W.heap.size,1,none⟩=some (.string k)/\V.cell? ⟨W.heap.size,2,none⟩=some (.string t)/\V.cell? ⟨W.heap.size,3,none⟩=some (.string m)/\V.cell? ⟨W.heap.size,4,none⟩=some (.int .i64 sc)/\V.cell? ⟨W.heap.size,5,none⟩=some (.int .i64 n)/\V.cell? ⟨W.heap.size,6,none⟩=some (.int .u32 dr)) (by kernel_rfl) (by kernel_rfl) rfl (by kernel_rfl) (fun _ _ _ d _ h=>by cases d <;> exact h) S0.out ?_
 intro L0 hL;simp only [Sched.Qw,List.getElem?_toArray,List.getElem?_cons_zero,List.getElem?_cons_succ] at hL;subst hL
 repeat (first
  | (refine Sched.Zj (v:=?_) (by rfl) ?_ ?_
     rotate_left
     (focus (intro w' hSw;obtain ⟨l0,l1,l2,l3,l4,l5,l6⟩:=hSw;go_simp;(try with_reducible rfl);done))
     simp only [Act.put,List.setIfInBounds_toArray,List.set_cons_zero,List.set_cons_succ]))
 refine Sched.Zo (by rfl) fun K' hK=>?_
 go_simp
 refine (HEN _).out.mono ?_;rintro e w3 ⟨v,rfl,hv,hb3⟩;have hb13:Below (W.alloc (.cells #[.int .i64 d,.string k,.string t,.string m,.int .i64 sc,.int .i64 n,.int .u32 dr] 37)).heap.size (W.alloc (.cells #[.int .i64 d,.string k,.string t,.string m,.int .i64 sc,.int .i64 n,.int .u32 dr] 37)) w3:=(Zk _ 1).trans hb3;obtain ⟨vA,vC,rfl⟩:=(I6 hv).form;have HD3:=jY (HD.out w3 hb13 _ _ (I6 hv));have HX3:=jY (HX.out.later hb13);have HKP3:=jY (HKP.out.trans (KeepB.below hb13));have S3:=jY (HCV.out w3 HX3.out);clear hv hb3 hb13 S0 HX HKP HD a0 a1 h h1 hA kx hb
 go_simp
 refine hK _ _ S3.out ?_;clear hK K';refine Sched.Zo (by rfl) fun K' hK=>?_
 go_simp
 refine HD3.out.mono ?_;rintro e w4 ⟨L',rfl,h4,hm4⟩;have HX4:=jY (h4.keep _ _ _ (by decide) (by decide) HX3.out);have S4:=jY (HCV.out w4 HX4.out);clear HD3 S3 HX3
 go_simp
 refine hK _ _ S4.out ?_;clear hK K';refine Sched.Zo (by rfl) fun K' hK=>?_
 go_simp
 refine (HEN _).out.mono ?_;rintro e w5 ⟨v,rfl,hv,hb5⟩;have h5:=h4.pair.later hb5;obtain ⟨vA2,vC2,rfl⟩:=(I6 hv).form;have HR5:=jY (HR.out w5 L' h5.pair _ _ (I6 hv));have HX5:=jY (HX4.out.later hb5);have HKP5:=jY ((HKP3.out.trans h4.keep).trans h5.keep);have S5:=jY (HCV.out w5 HX5.out);clear hv hb5 h4 h5 S4 HX4 HKP3 HR HEN
 go_simp
 refine hK _ _ S5.out ?_;clear hK K';refine Sched.Zo (by rfl) fun K' hK=>?_
 go_simp
 refine HR5.out.mono ?_;rintro e w6 ⟨R',rfl,h6,hr6⟩;have S6:=jY (HCV.out w6 (h6.keep _ _ _ (by decide) (by decide) HX5.out));have HE:=jY (show DidAt w0 W w6 p rp en mn sd mx c G from ⟨c,L',R',lAd _,Nat.le_succ _,h6.pair,HA.out L' R' hm4 hr6 h6.pair.keys h6.pair.qs HKN.out,HKP5.out.trans h6.keep,HGO.out L' hm4 h6.pair.qs⟩);have hme:=HAE.out;clear HR5 h6 hr6 hm4 S5 HX5 HKP5 HA HKN HAE
 go_simp
 refine hK _ _ S6.out ?_;clear hK K' S6
 repeat (first
  | (refine Sched.Zj (v:=?_) (by rfl) ?_ ?_
     rotate_left
     (focus (intro w' hSw;go_simp;(try with_reducible rfl);done))
     simp only [Act.put,List.setIfInBounds_toArray,List.set_cons_zero,List.set_cons_succ]))
 refine Sched.Xf ?_;go_wp2_with fail;go_ret;exact ⟨by simp,HE.out⟩
end
section
variable {w0 W W':World} {p rp sd c:Nat} {en mn mx:Int} {L:List Th} {R:List Rt} {t:Th} {x:Rt}
theorem y8i(h:PairSp w0 W p rp en mn sd mx c L R)(hA:Alike en mn L R)(hc:c<=300)(ht:t∈L)(hx:x∈R)(htx:t.key=x.key)(m:ByteArray)(hm:m.size<=281474976710656)(sc lv:Int)(hs:Pk.Ya sc) :
 Calls Tryz.prog 24 #[.pointer (some ⟨t.s,0,none⟩),.string m,.int .i64 sc,.int .i64 lv] W fun e W1=>e=.returned (.tuple #[.bool (z3m t.E m lv),.int .i64 (z3n m lv)])/\∃ u':Th,u'.q=t.q/\u'.key=t.key/\PairK w0 W W1 p rp en mn sd mx (c+1) (Xu L u') R/\∀ W2,PairSp w0 W2 p rp en mn sd mx (c+1) (Xu L u') R ->
  Calls Tryz.prog 25 #[.pointer (some ⟨x.r,0,none⟩),.string m,.int .i64 sc,.int .i64 lv] W2 fun e W3=>e=.returned (.tuple #[.bool (z3m t.E m lv),.int .i64 (z3n m lv)])/\∃ R2,PairK w0 W2 W3 p rp en mn sd mx (c+1) (Xu L u') R2/\Alike en mn (Xu L u') R2:=by
 have hg:=h.good ht;have e:=hA.same ht hx htx;have e1:t.isL=x.isL:=congrArg It.isL e;have e2:t.E=x.E:=congrArg It.E e;obtain ⟨i,hi,hxi⟩:=List.mem_iff_getElem.1 hx;have hx':R[i]?=some x:=by rw [lAa hi,hxi]
 have hfit:=hA.fit t.toIt (List.mem_map.2 ⟨t,ht,rfl⟩);refine (x4i h ht (by omega) m sc lv hs).mono ?_;rintro e W1 ⟨rfl,S1,h1⟩;refine ⟨rfl,{ t with isL:=Ma (Z6 en 200) (Z6 mn 64) t.isL t.E m lv,E:=Mb t.E m sc lv,S:=S1 },rfl,rfl,h1,fun W2 h2=>?_⟩;refine (y8j h2 hx' (by omega) (by rw [<- e2];exact { hg with len:=lAe hg.len (Nat.le_succ c),cap:=by omega }) (by rw [<- e1,<- e2];exact hfit) m hm sc lv).mono ?_;rintro e W3 ⟨rfl,h3⟩;exact ⟨by rw [e2],_,h3,hA.add h.qs ht hx' htx.symm hg.dist m sc lv S1 h3.pair.keys⟩
theorem y8m(h:PairSp w0 W p rp en mn sd mx c L R)(hA:Alike en mn L R)(hc:c<=300)(ht:t∈L)(hx:x∈R)(htx:t.key=x.key)(m:ByteArray)(hm:m.size<=281474976710656) :
 Calls Tryz.prog 31 #[.pointer (some ⟨t.s,0,none⟩),.string m] W fun e W1=>e=.returned (.bool (Pp t.E m))/\∃ u':Th,u'.q=t.q/\u'.key=t.key/\PairK w0 W W1 p rp en mn sd mx c (Xu L u') R/\y4s W W1/\∀ W2,PairSp w0 W2 p rp en mn sd mx c (Xu L u') R ->
  Calls Tryz.prog 32 #[.pointer (some ⟨x.r,0,none⟩),.string m] W2 fun e W3=>e=.returned (.bool (Pp t.E m))/\y4s W2 W3/\∃ R2,PairK w0 W2 W3 p rp en mn sd mx c (Xu L u') R2/\Alike en mn (Xu L u') R2:=by
 have hg:=h.good ht;have e:=hA.same ht hx htx;have e2:t.E=x.E:=congrArg It.E e;obtain ⟨i,hi,hxi⟩:=List.mem_iff_getElem.1 hx;have hx':R[i]?=some x:=by rw [lAa hi,hxi]
 refine (z8m h ht (by omega) m hm).mono ?_;rintro e W1 ⟨rfl,⟨S1,h1⟩,hk1⟩;refine ⟨rfl,{ t with isL:=t.isL,E:=rmE t.E m,S:=S1 },rfl,rfl,h1,hk1,fun W2 h2=>?_⟩;refine (z5j h2 hx' (by omega) (by rw [<- e2];exact hg) m).mono ?_;rintro e W3 ⟨rfl,h3,hk3⟩;exact ⟨by rw [e2],hk3,_,h3,hA.rem h.qs ht hx' htx.symm m S1 h3.pair.keys⟩
end
section
variable {w0 W W':World} {p rp sd c:Nat} {en mn mx:Int} {L:List Th} {R:List Rt}
theorem x1u(h:PairSp w0 W p rp en mn sd mx c L R)(hA:Alike en mn L R)(hc:c<=300)(d:Int)(k t m:ByteArray)(sc n dr:Int)(hk0:k.size<=9223372036854775807)(hm0:m.size<=9223372036854775807)(hsc:Pk.Ya sc)(hn:Lf.I64 n)(hkd:(IntKind.u64.wrap d).tmod 10=0\/(IntKind.u64.wrap d).tmod 10=1\/(IntKind.u64.wrap d).tmod 10=2) :
 Calls Tryz.prog 6 #[.pointer (some ⟨p,0,none⟩),.pointer (some ⟨rp,0,none⟩),Kd d k t m sc n dr] W fun e W'=>e=.returned (.bool true)/\DidAt w0 W W' p rp en mn sd mx c (fun I=>OffI (itl L) I (Zf k) (Zf t)):=by
 obtain ⟨G,hG⟩:∃ G:List It->Prop,(fun I=>OffI (itl L) I (Zf k) (Zf t))=G:=⟨_,rfl⟩
 have HGO:Hid (∀ a L' u L2,Og L (Zf k) n a L'->u∈L'->u.key=Zf k->Y6 (itl L')->(L'.map Th.q).Nodup->(L2=L'\/∃ u',u'.q=u.q/\u'.key=u.key/\L2=Xu L' u')->G (itl L2)):=jY (by
  rw [<- hG];intro a L' u L2 hm hu huk hk1 hq1 h2;rcases h2 with rfl|⟨u',e1,e2,rfl⟩
  ·exact z8d hm
  ·exact (z8d hm).trans (Fe hk1 hq1 hu e1 huk e2))
 have HG0:Hid (G (itl L)):=jY (by rw [<- hG];exact .refl);rw [hG];clear hG;have hb:=Z0 W (.cells #[.int .i64 d,.string k,.string t,.string m,.int .i64 sc,.int .i64 n,.int .u32 dr] 37);have kx:=Blk.new W 37 #[.int .i64 d,.string k,.string t,.string m,.int .i64 sc,.int .i64 n,.int .u32 dr];have HK:=fun W=>jY (V5 k hk0 W);have HM:=fun W=>jY (V5 m hm0 W);have hk70:=Xl k;have hm70:=Xl m;have h1:=h.later hb;have HKP:=jY h1.keep;have HX:=jY kx;have HD:=jY (y8f h1.pair (by omega) (Zf k) (by omega) n hn);have HR:=jY (fun W' L' (g:PairSp w0 W' p rp en mn sd mx c L' R)=>y2x g hA.rksz (Zf k) (by omega) n);have HMK:=jY (fun a b L' R' (hm:Og L (Zf k) n a L') (hr:Ol R (Zf k) n b R') (hk:Y6 (itl L'))=>hA.make hm hr hk);have HADD:=jY (fun W1 L' R' (t1:Th) (x1:Rt) (g:PairSp w0 W1 p rp en mn sd mx c L' R') (a1:Alike en mn L' R') (ht:t1∈L') (hx:x1∈R') (htx:t1.key=x1.key)=>y8i g a1 hc ht hx htx (Zf m) (by omega) sc 1 hsc);have hmr:=hA.made (Zf k) n;have HAL:=jY hA;have a0:=kx.cell 0;have a1:=kx.cell 1;have a5:=kx.cell 5;simp at a0 a1 a5;unfold Kd;generalize Zf k=kk at *;generalize Zf m=mm at *;clear h h1 hA hb kx
 by_cases he:Yu L kk n=0
 ·have HFM:=jY (fun a L' (hm:Og L kk n a L')=>show ∃ t1∈L',t1.key=kk/\a=some ⟨t1.s,0,none⟩ from by
   rcases hm with ⟨h0,_⟩|⟨_,_,t1,ht,htk,ha,_⟩
   ·exact absurd he h0
   ·exact ⟨t1,ht,htk,ha⟩)
  have HFR:=jY (fun b R' (hr:Ol R kk n b R')=>show ∃ x1∈R',x1.key=kk/\b=some ⟨x1.r,0,none⟩ from by
   rcases hr with ⟨h0,_⟩|⟨_,_,x1,hx,hxk,hb,_⟩
   ·exact absurd (hmr.symm.trans he) h0
   ·exact ⟨x1,hx,hxk,hb⟩)
  rw [<- hmr,he] at HR;rw [he] at HD;clear hmr he;rcases hkd with hkd|hkd|hkd
  all_goals (
   go_enter Tryz.func6,Tryz.ntmps6
   go_wp2_with fail;refine (HK _).out.mono ?_;rintro e w2 ⟨rfl,rfl⟩;go_wp2_with fail;refine HD.out.mono ?_;rintro e w3 ⟨a,L',rfl,h3,hm3⟩;have HR3:=jY (HR.out w3 L' h3.pair);have hx3:=h3.keep _ _ _ (by decide) (by decide) HX.out;have HX3:=jY hx3;have HK3:=jY (HKP.out.trans h3.keep);have HM3:=jY hm3;have b5:=hx3.cell 5;simp at b5;clear h3 hm3 HD HR HKP HX hx3 a0 a1 a5;go_wp2_with fail;refine HR3.out.mono ?_;rintro e w4 ⟨b,R',rfl,h4,hr4⟩;have hal4:=HMK.out a b L' R' HM3.out hr4 h4.pair.keys;obtain ⟨t1,ht1,ht1k,rfl⟩:=HFM.out a L' HM3.out;obtain ⟨x1,hx1,hx1k,rfl⟩:=HFR.out b R' hr4;have hx4:=h4.keep _ _ _ (by decide) (by decide) HX3.out;have HX4:=jY (hx4.later (Zk w4 1));have HK4:=jY ((HK3.out.trans h4.keep).trans (KeepB.below (Zk w4 1)));have HAD4:=jY (HADD.out w4.drew L' R' t1 x1 (h4.pair.later (Zk w4 1)).pair hal4 ht1 hx1 (ht1k.trans hx1k.symm));have HG4:=jY (fun u' (e1:u'.q=t1.q) (e2:u'.key=t1.key)=>HGO.out _ L' t1 (Xu L' u') HM3.out ht1 ht1k h4.pair.keys h4.pair.qs (.inr ⟨u',e1,e2,rfl⟩));have S0:=jY (show w4.cell? ⟨W.heap.size,3,none⟩=some (.string m)/\w4.cell? ⟨W.heap.size,4,none⟩=some (.int .i64 sc) from ⟨hx4.cell 3,hx4.cell 4⟩);clear h4 hr4 hal4 HR3 HX3 HK3 HM3 HMK HFM HFR HADD HGO b5 hx4 ht1 hx1;go_wp2_with fail
   refine Sched.Yj [(0,true),(1,true),(2,true),(4,true),(5,true),(3,false),(6,false),(7,true),(8,true),(9,true),(10,true),(11,true)]
    (fun V=>V.cell? ⟨W.heap.size,3,none⟩=some (.string m)/\V.cell? ⟨W.heap.size,4,none⟩=some (.int .i64 sc)) (by kernel_rfl) (by kernel_rfl) rfl (by kernel_rfl) (fun _ _ _ d _ h=>by cases d <;> exact h) S0.out ?_
   intro L0 hL;simp only [Sched.Qw,List.getElem?_toArray,List.getElem?_cons_zero,List.getElem?_cons_succ] at hL;subst hL
   repeat (first
    | (refine Sched.Zj (v:=?_) (by rfl) ?_ ?_
       rotate_left
       (focus (intro w' hSw;obtain ⟨l0,l1⟩:=hSw;go_simp;(try with_reducible rfl);done))
       simp only [Act.put,List.setIfInBounds_toArray,List.set_cons_zero,List.set_cons_succ]))
   refine Sched.Zo (by rfl) fun K' hK=>?_
   go_simp
   refine (HM _).out.mono ?_;rintro e w5 ⟨rfl,rfl⟩
   go_simp
   refine hK _ _ S0.out ?_;clear hK K';refine Sched.Zo (by rfl) fun K' hK=>?_
   go_simp
   refine HAD4.out.mono ?_;rintro e w6 ⟨rfl,u',e1,e2,h6,hR6⟩;have hx6:=h6.keep _ _ _ (by decide) (by decide) HX4.out;have HX6:=jY (hx6.later (Zk w6 1));have S6:=jY (show w6.cell? ⟨W.heap.size,3,none⟩=some (.string m)/\w6.cell? ⟨W.heap.size,4,none⟩=some (.int .i64 sc) from ⟨hx6.cell 3,hx6.cell 4⟩);have HR6:=jY (hR6 w6.drew (h6.pair.later (Zk w6 1)).pair);have HK6:=jY ((HK4.out.trans h6.keep).trans (KeepB.below (Zk w6 1)));have HG6:=jY (HG4.out u' e1 e2);clear hR6 h6 hx6 HAD4 HX4 HK4 S0 HG4 e1 e2
   go_simp
   refine hK _ _ S6.out ?_;clear hK K'
   repeat (first
    | (refine Sched.Zj (v:=?_) (by rfl) ?_ ?_
       rotate_left
       (focus (intro w' hSw;obtain ⟨l0,l1⟩:=hSw;go_simp;(try with_reducible rfl);done))
       simp only [Act.put,List.setIfInBounds_toArray,List.set_cons_zero,List.set_cons_succ]))
   refine Sched.Xf ?_;go_wp2_with fail
   refine Sched.Yj [(0,true),(1,true),(2,true),(4,true),(5,true),(3,false),(6,false),(7,true),(8,true),(9,true),(10,true),(11,true)]
    (fun V=>V.cell? ⟨W.heap.size,3,none⟩=some (.string m)/\V.cell? ⟨W.heap.size,4,none⟩=some (.int .i64 sc)) (by kernel_rfl) (by kernel_rfl) rfl (by kernel_rfl) (fun _ _ _ d _ h=>by cases d <;> exact h) S6.out ?_
   intro L0 hL;simp only [Sched.Qw,List.getElem?_toArray,List.getElem?_cons_zero,List.getElem?_cons_succ] at hL;subst hL
   repeat (first
    | (refine Sched.Zj (v:=?_) (by rfl) ?_ ?_
       rotate_left
       (focus (intro w' hSw;obtain ⟨l0,l1⟩:=hSw;go_simp;(try with_reducible rfl);done))
       simp only [Act.put,List.setIfInBounds_toArray,List.set_cons_zero,List.set_cons_succ]))
   refine Sched.Zo (by rfl) fun K' hK=>?_
   go_simp
   refine (HM _).out.mono ?_;rintro e w7 ⟨rfl,rfl⟩
   go_simp
   refine hK _ _ S6.out ?_;clear hK K';refine Sched.Zo (by rfl) fun K' hK=>?_
   go_simp
   refine HR6.out.mono ?_;rintro e w8 ⟨rfl,R2,h8,hal8⟩;have hx8:=h8.keep _ _ _ (by decide) (by decide) HX6.out;have S8:=jY (show w8.cell? ⟨W.heap.size,3,none⟩=some (.string m)/\w8.cell? ⟨W.heap.size,4,none⟩=some (.int .i64 sc) from ⟨hx8.cell 3,hx8.cell 4⟩);have HE:=jY (show DidAt w0 W w8 p rp en mn sd mx c G from ⟨c+1,_,R2,Nat.le_succ _,lAd _,h8.pair,hal8,HK6.out.trans h8.keep,HG6.out⟩);clear h8 hal8 hx8 HR6 HX6 HK6 HG6 S6
   go_simp
   refine hK _ _ S8.out ?_;clear hK K'
   repeat (first
    | (refine Sched.Zj (v:=?_) (by rfl) ?_ ?_
       rotate_left
       (focus (intro w' hSw;obtain ⟨l0,l1⟩:=hSw;go_simp;(try with_reducible rfl);done))
       simp only [Act.put,List.setIfInBounds_toArray,List.set_cons_zero,List.set_cons_succ]))
   refine Sched.Xf ?_;go_wp2_with fail;go_ret
   exact ⟨by simp,HE.out⟩)
 ·rw [<- hmr] at HR
  have HNM:=jY (fun a L' (hm:Og L kk n a L')=>show a=none/\L'=L from by
   rcases hm with ⟨_,h1,h2⟩|⟨h0,_⟩
   ·exact ⟨h1,h2⟩
   ·exact absurd h0 he)
  have HNR:=jY (fun b R' (hr:Ol R kk n b R')=>show b=none/\R'=R from by
   rcases hr with ⟨_,h1,h2⟩|⟨h0,_⟩
   ·exact ⟨h1,h2⟩
   ·exact absurd (hmr.trans h0) he)
  clear HMK HADD HGO hmr;generalize Yu L kk n=z at *;rcases hkd with hkd|hkd|hkd
  all_goals (
   go_enter Tryz.func6,Tryz.ntmps6
   go_wp2_with fail;refine (HK _).out.mono ?_;rintro e w2 ⟨rfl,rfl⟩;go_wp2_with fail;refine HD.out.mono ?_;rintro e w3 ⟨a,L',rfl,h3,hm3⟩;obtain ⟨rfl,rfl⟩:=HNM.out a L' hm3;have HR3:=jY (HR.out w3 _ h3.pair);have hx3:=h3.keep _ _ _ (by decide) (by decide) HX.out;have HK3:=jY (HKP.out.trans h3.keep);have b5:=hx3.cell 5;simp at b5;clear h3 hm3 HD HR HKP HX hx3 a0 a1 a5 HNM;go_wp2_with fail;refine HR3.out.mono ?_;rintro e w4 ⟨b,R',rfl,h4,hr4⟩;obtain ⟨rfl,rfl⟩:=HNR.out b R' hr4;have HE:=jY (show DidAt w0 W w4 p rp en mn sd mx c G from ⟨c,_,_,lAd _,Nat.le_succ _,h4.pair,HAL.out,HK3.out.trans h4.keep,HG0.out⟩);clear h4 hr4 HR3 HK3 HNR b5 HAL HG0;go_wp2_with fail;go_ret
   exact ⟨by simp,HE.out⟩)
end
section
variable {w0 W W':World} {p rp sd c i:Nat} {en mn mx:Int} {L:List Th} {R:List Rt} {x:Rt}
theorem x9p(h:PairSp w0 W p rp en mn sd mx c L R)(hx:R[i]?=some x):∃ g cap c0 cg,Blk W rp Jn c0/\Blk W g V0 cg/\∀ V,Blk V rp Jn c0->Blk V g V0 cg->V.cell? ⟨rp,0,none⟩=some (.slice (some ⟨g,0,none⟩) R.length cap)/\V.cell? ⟨g,i*4+1,none⟩=some (.pointer (some ⟨x.r,0,none⟩)):=by
 obtain ⟨S,T,_,h2,_⟩:=h.ex;obtain ⟨rv,g,hl,_⟩:=h2;obtain ⟨gg,cap,hrv,_,q1,_,_⟩:=g.row.cells hx;subst hrv;obtain ⟨cg,hg⟩:=g.row.blk (k:=gg) rfl;exact ⟨gg,cap,_,cg,g.blk,hg,fun V h1 h2=>⟨h1.cell 0,by rw [h2.cell,<- hg.cell];exact q1⟩⟩
theorem x1x(h:PairSp w0 W p rp en mn sd mx c L R)(hA:Alike en mn L R)(hc:c<=300)(d:Int)(k t m:ByteArray)(sc n dr:Int)(hk0:k.size<=9223372036854775807)(hm0:m.size<=9223372036854775807)(hkd:(IntKind.u64.wrap d).tmod 10=5) :
 Calls Tryz.prog 6 #[.pointer (some ⟨p,0,none⟩),.pointer (some ⟨rp,0,none⟩),Kd d k t m sc n dr] W fun e W'=>e=.returned (.bool true)/\DidAt w0 W W' p rp en mn sd mx c (fun I=>OffI (itl L) I (Zf k) (Zf t)):=by
 obtain ⟨G,hG⟩:∃ G:List It->Prop,(fun I=>OffI (itl L) I (Zf k) (Zf t))=G:=⟨_,rfl⟩
 have HGO:Hid (∀ u u' L2,u∈L->u.key=Zf k->(L2=L\/(u'.q=u.q/\u'.key=u.key/\L2=Xu L u'))->Y6 (itl L2)->G (itl (if Yg (itl L2) (Zf k) then Yl L2 (Zf k) else L2))):=jY (by
  rw [<- hG];intro u u' L2 hu huk h2 hk2;rcases h2 with rfl|⟨e1,e2,rfl⟩
  ·exact Av hk2
  ·exact (Fe h.keys h.qs hu e1 huk e2).trans (Av hk2))
 have HG0:Hid (G (itl (if Yg (itl L) (Zf k) then Yl L (Zf k) else L))):=jY (by rw [<- hG];exact Av h.keys);rw [hG];clear hG;have hb:=Z0 W (.cells #[.int .i64 d,.string k,.string t,.string m,.int .i64 sc,.int .i64 n,.int .u32 dr] 37);have kx:=Blk.new W 37 #[.int .i64 d,.string k,.string t,.string m,.int .i64 sc,.int .i64 n,.int .u32 dr];have HK:=fun W=>jY (V5 k hk0 W);have HM:=fun W=>jY (V5 m hm0 W);have hk70:=Xl k;have hm70:=Xl m;have h1:=h.later hb;have HKP:=jY h1.keep;have HX:=jY kx;have HF:=jY (z2r h1.pair (Zf k) (by omega));have HAT:=jY (fun W1 (g:PairSp w0 W1 p rp en mn sd mx c L R)=>y5w g (Zf k));have HT:=jY (fun W1 L2 R2 (g:PairSp w0 W1 p rp en mn sd mx c L2 R2)=>y8h g (Zf k) (by omega));have HTR:=jY (fun W1 L2 L3 R2 (a:Alike en mn L2 R2) (g:PairSp w0 W1 p rp en mn sd mx c L3 R2)=>y2y g a.rkeys a.rksz (Zf k) (by omega));have HTA:=jY (fun L2 R2 (a:Alike en mn L2 R2) hk2=>show Yg (itl L2) (Zf k)=Yg (itr R2) (Zf k)/\Alike en mn (if Yg (itl L2) (Zf k) then Yl L2 (Zf k) else L2) (if Yg (itr R2) (Zf k) then Y0 R2 (Zf k) [] else R2) from ⟨a.empty (Zf k),a.tidy (Zf k) hk2⟩);have HREM:=jY (fun W1 (t1:Th) (x1:Rt) (g:PairSp w0 W1 p rp en mn sd mx c L R) (ht:t1∈L) (hx:x1∈R) (htx:t1.key=x1.key)=>y8m g hA hc ht hx htx (Zf m) (by omega));have hth:=hA.there (Zf k);have HAL:=jY hA;have HSP:=jY (fun (t1:Th) (ht:t1∈L) (e:t1.key=Zf k)=>show Fr L (Zf k)=some ⟨t1.s,0,none⟩ from by rw [<- e];exact y6g hA.keys ht)
 have HTM:=jY (fun (e:(Y4 L (Zf k)).isSome=true)=>show ∃ t1∈L,t1.key=Zf k from by
  obtain ⟨a,ha⟩:=Option.isSome_iff_exists.1 e;obtain ⟨u,hu,huk,_⟩:=U2 ha
  exact ⟨u,hu,huk⟩)
 have a0:=kx.cell 0;have a1:=kx.cell 1;simp at a0 a1;unfold Kd;generalize Zf k=kk at *;generalize Zf m=mm at *;clear h h1 hA hb kx
 by_cases h0:0<=atR R kk
 ·rw [decide_eq_true h0] at hth;obtain ⟨t1,ht1,ht1k⟩:=HTM.out hth;have hsp:=HSP.out t1 ht1 ht1k;obtain ⟨i,x1,hat,hx1,hx1k,_⟩:=O7 h0;have hil:=(lAb.1 hx1).1;have hx1m:=lAc hx1;have HREM1:=jY (fun W1 g=>HREM.out W1 t1 x1 g ht1 hx1m (ht1k.trans hx1k.symm));have HSL:=jY (fun W1 (g:PairSp w0 W1 p rp en mn sd mx c L R)=>x9p g hx1);have HGO1:=jY (fun u' e1 e2 hk2=>HGO.out t1 u' (Xu L u') ht1 ht1k (.inr ⟨e1,e2,rfl⟩) hk2);rw [hth,hsp] at HF;rw [hat] at HAT;clear hth hsp hat h0 HTM HSP HGO HG0 ht1 hx1 hx1m HREM
  go_enter Tryz.func6,Tryz.ntmps6
  go_wp2_with fail;refine (HK _).out.mono ?_;rintro e w2 ⟨rfl,rfl⟩;go_wp2_with fail;refine HF.out.mono ?_;rintro e w3 ⟨rfl,h3⟩;have HAT3:=jY (HAT.out w3 h3.pair);have hx3:=h3.keep _ _ _ (by decide) (by decide) HX.out;have HK3:=jY ((HKP.out.trans h3.keep).trans (KeepB.below (Zk w3 1)));have HX3:=jY (hx3.later (Zk w3 1));have h3d:=(h3.pair.later (Zk w3 1)).pair;have HR3:=jY (HREM1.out w3.drew h3d);obtain ⟨g,cap,cc0,cg,hcr,hcg,hcv⟩:=HSL.out w3.drew h3d;have HCR:=jY hcr;have HCG:=jY hcg;have HCV:=jY hcv;have hs0:=hcv _ hcr hcg;have S0:=jY (show w3.cell? ⟨W.heap.size,3,none⟩=some (.string m)/\w3.cell? ⟨rp,0,none⟩=some (.slice (some ⟨g,0,none⟩) R.length cap)/\w3.cell? ⟨g,i*4+1,none⟩=some (.pointer (some ⟨x1.r,0,none⟩)) from ⟨hx3.cell 3,hs0.1,hs0.2⟩);clear h3 hx3 h3d hcr hcg hcv hs0 HF HX HKP HREM1 HSL HAT a0 a1;go_wp2_with fail;refine HAT3.out.mono ?_;rintro e w3' ⟨rfl,rfl⟩;clear HAT3;go_wp2_with fail
  refine Sched.Yj [(0,true),(1,true),(2,true),(3,true),(4,true),(7,true),(8,true),(9,true),(10,true),(11,true),(12,true),(13,true),(14,true),(15,true),(16,true),(5,false),(6,false),(17,false),(18,false),(19,true),(20,true)]
   (fun V=>V.cell? ⟨W.heap.size,3,none⟩=some (.string m)/\V.cell? ⟨rp,0,none⟩=some (.slice (some ⟨g,0,none⟩) R.length cap)/\V.cell? ⟨g,i*4+1,none⟩=some (.pointer (some ⟨x1.r,0,none⟩))) (by kernel_rfl) (by kernel_rfl) rfl (by kernel_rfl) (fun _ _ _ d _ h=>by cases d <;> exact h) S0.out ?_
  intro L0 hL;simp only [Sched.Qw,List.getElem?_toArray,List.getElem?_cons_zero,List.getElem?_cons_succ] at hL;subst hL
  repeat (first
   | (refine Sched.Zj (v:=?_) (by rfl) ?_ ?_
      rotate_left
      (focus (intro w' hSw;obtain ⟨l0,l1,l2⟩:=hSw;go_simp;(try with_reducible rfl);done))
      simp only [Act.put,List.setIfInBounds_toArray,List.set_cons_zero,List.set_cons_succ]))
  refine Sched.Zo (by rfl) fun K' hK=>?_
  go_simp
  refine (HM _).out.mono ?_;rintro e w5 ⟨rfl,rfl⟩
  go_simp
  refine hK _ _ S0.out ?_;clear hK K';refine Sched.Zo (by rfl) fun K' hK=>?_
  go_simp
  refine HR3.out.mono ?_;rintro e w6 ⟨rfl,u',e1,e2,h6,hkr6,hR6⟩;have hx6:=h6.keep _ _ _ (by decide) (by decide) HX3.out;have HX6:=jY hx6;have hcr6:=hkr6 _ _ _ (.inl rfl) HCR.out;have hcg6:=hkr6 _ _ _ (.inr rfl) HCG.out;have hs6:=HCV.out _ hcr6 hcg6;have S6:=jY (show w6.cell? ⟨W.heap.size,3,none⟩=some (.string m)/\w6.cell? ⟨rp,0,none⟩=some (.slice (some ⟨g,0,none⟩) R.length cap)/\w6.cell? ⟨g,i*4+1,none⟩=some (.pointer (some ⟨x1.r,0,none⟩)) from ⟨hx6.cell 3,hs6.1,hs6.2⟩);have HCR6:=jY hcr6;have HCG6:=jY hcg6;have HR6:=jY (hR6 w6 h6.pair);have HK6:=jY (HK3.out.trans h6.keep);have HG6:=jY (HGO1.out u' e1 e2);clear hR6 h6 hx6 hkr6 hcr6 hcg6 hs6 HR3 HX3 HK3 HCR HCG S0 HGO1 e1 e2
  go_simp
  refine hK _ _ S6.out ?_;clear hK K'
  repeat (first
   | (refine Sched.Zj (v:=?_) (by rfl) ?_ ?_
      rotate_left
      (focus (intro w' hSw;obtain ⟨l0,l1,l2⟩:=hSw;go_simp;(try with_reducible rfl);done))
      simp only [Act.put,List.setIfInBounds_toArray,List.set_cons_zero,List.set_cons_succ]))
  refine Sched.Zo (by rfl) fun K' hK=>?_
  go_simp
  refine (HM _).out.mono ?_;rintro e w7 ⟨rfl,rfl⟩
  go_simp
  refine hK _ _ S6.out ?_;clear hK K';refine Sched.Zo (by rfl) fun K' hK=>?_
  go_simp
  refine HR6.out.mono ?_;rintro e w8 ⟨rfl,hkr8,R2,h8,hal8⟩;have hx8:=h8.keep _ _ _ (by decide) (by decide) HX6.out;have hs8:=HCV.out _ (hkr8 _ _ _ (.inl rfl) HCR6.out) (hkr8 _ _ _ (.inr rfl) HCG6.out);have S8:=jY (show w8.cell? ⟨W.heap.size,3,none⟩=some (.string m)/\w8.cell? ⟨rp,0,none⟩=some (.slice (some ⟨g,0,none⟩) R.length cap)/\w8.cell? ⟨g,i*4+1,none⟩=some (.pointer (some ⟨x1.r,0,none⟩)) from ⟨hx8.cell 3,hs8.1,hs8.2⟩);have HT8:=jY (HT.out w8 _ R2 h8.pair);have HTA8:=jY (HTA.out _ R2 hal8);have HTR8:=jY (fun W1 L3 g=>HTR.out W1 _ L3 R2 hal8 g);have HK8:=jY (HK6.out.trans h8.keep);have HG8:=jY (HG6.out h8.pair.keys);clear h8 hx8 hkr8 hs8 hal8 HR6 HX6 HK6 HG6 HCR6 HCG6 HCV S6 HT HTA HTR
  go_simp
  refine hK _ _ S8.out ?_;clear hK K'
  repeat (first
   | (refine Sched.Zj (v:=?_) (by rfl) ?_ ?_
      rotate_left
      (focus (intro w' hSw;obtain ⟨l0,l1,l2⟩:=hSw;go_simp;(try with_reducible rfl);done))
      simp only [Act.put,List.setIfInBounds_toArray,List.set_cons_zero,List.set_cons_succ]))
  refine Sched.Xf ?_;clear S8;generalize Xu L u'=L2 at *;go_wp2_with fail;refine HT8.out.mono ?_;rintro e w9 ⟨rfl,h9⟩;have HTR9:=jY (HTR8.out w9 _ h9.pair);have HTA9:=HTA8.out h9.pair.keys;have HK9:=jY (HK8.out.trans h9.keep);have HAL9:=jY HTA9.2;rw [<- HTA9.1] at HTR9 HAL9;clear h9 HTA9 HT8 HTA8 HTR8 HK8;generalize Yg (itl L2) kk=eb at *;go_wp2_with fail;refine HTR9.out.mono ?_;rintro e w10 ⟨rfl,h10⟩;have HE:=jY (show DidAt w0 W w10 p rp en mn sd mx c G from ⟨c,_,_,lAd _,Nat.le_succ _,h10.pair,HAL9.out,HK9.out.trans h10.keep,HG8.out⟩);clear h10 HTR9 HAL9 HK9 HG8;go_wp2_with fail;go_ret;exact ⟨by simp,HE.out⟩
 ·rw [decide_eq_false h0] at hth;rw [hth] at HF;generalize atR R kk=at0 at *;generalize Fr L kk=sp0 at *;clear hth HTM HSP HGO HREM
  go_enter Tryz.func6,Tryz.ntmps6
  go_wp2_with fail;refine (HK _).out.mono ?_;rintro e w2 ⟨rfl,rfl⟩;go_wp2_with fail;refine HF.out.mono ?_;rintro e w3 ⟨rfl,h3⟩;have HAT3:=jY (HAT.out w3 h3.pair);have h3d:=(h3.pair.later (Zk w3 1)).pair;have HK3:=jY ((HKP.out.trans h3.keep).trans (KeepB.below (Zk w3 1)));have HT3:=jY (HT.out w3.drew L R h3d);have HTA3:=jY (HTA.out L R HAL.out);have HTR3:=jY (fun W1 L3 g=>HTR.out W1 L L3 R HAL.out g);clear h3 h3d HF HX HKP HAT a0 a1 HT HTA HTR HAL;go_wp2_with fail;refine HAT3.out.mono ?_;rintro e w3' ⟨rfl,rfl⟩;clear HAT3;go_wp2_with fail
  go_region
  go_wp2_with fail;refine HT3.out.mono ?_;rintro e w9 ⟨rfl,h9⟩;have HTR9:=jY (HTR3.out w9 _ h9.pair);have HTA9:=HTA3.out h9.pair.keys;have HK9:=jY (HK3.out.trans h9.keep);have HAL9:=jY HTA9.2;rw [<- HTA9.1] at HTR9 HAL9;clear h9 HTA9 HT3 HTA3 HTR3 HK3;generalize Yg (itl L) kk=eb at *;go_wp2_with fail;refine HTR9.out.mono ?_;rintro e w10 ⟨rfl,h10⟩;have HE:=jY (show DidAt w0 W w10 p rp en mn sd mx c G from ⟨c,_,_,lAd _,Nat.le_succ _,h10.pair,HAL9.out,HK9.out.trans h10.keep,HG0.out⟩);clear h10 HTR9 HAL9 HK9 HG0;go_wp2_with fail;go_ret;exact ⟨by simp,HE.out⟩
end
end Go.Proofs.YtcklcmafohlflaaGreatDoor
namespace Go.Proofs.YtcklcmafohlflaaGreatDoor
open Zc (Ent Ext KeepC Ym Z9 Zg Xg Zx Zb Zv Yo Y5 Ze Zz Z4 Zd)
open Go.ChangeShapes Go.WideShapes Go.ChangeAt Go.RowKit Go.Deep
open Go.ChangeMaps (open_string shut_string)
theorem z7s:laidOutB Tryz.prog=true:=by kernel_rfl
def y1a : Field := { name := "Limits", type := 23, offset := 0, embedded := false, tag := "", pkgPath := "", byteOffset := 0 }
def z4h : Field := { name := "Seed", type := 24, offset := 2, embedded := false, tag := "", pkgPath := "", byteOffset := 16 }
def z4e : Field := { name := "Max", type := 3, offset := 3, embedded := false, tag := "", pkgPath := "", byteOffset := 24 }
def z4a : Field := { name := "Entries", type := 3, offset := 0, embedded := false, tag := "", pkgPath := "", byteOffset := 0 }
def z4d : Field := { name := "Member", type := 3, offset := 1, embedded := false, tag := "", pkgPath := "", byteOffset := 8 }
theorem x6s:Tryz.prog.underlying 26=some (.struct #[y1a,z4h,z4e]):=Tryz.underlying26
theorem v3b:Tryz.prog.underlying 23=some (.struct #[z4a,z4d]):=Tryz.underlying23
def z3y : Field := { name := "Do", type := 3, offset := 0, embedded := false, tag := "", pkgPath := "", byteOffset := 0 }
def z4b : Field := { name := "Key", type := 9, offset := 1, embedded := false, tag := "", pkgPath := "", byteOffset := 8 }
def z4i : Field := { name := "To", type := 9, offset := 2, embedded := false, tag := "", pkgPath := "", byteOffset := 24 }
def z4c : Field := { name := "Member", type := 9, offset := 3, embedded := false, tag := "", pkgPath := "", byteOffset := 40 }
def z4g : Field := { name := "Score", type := 2, offset := 4, embedded := false, tag := "", pkgPath := "", byteOffset := 56 }
def z4f : Field := { name := "N", type := 3, offset := 5, embedded := false, tag := "", pkgPath := "", byteOffset := 64 }
def z3z : Field := { name := "Draw", type := 24, offset := 6, embedded := false, tag := "", pkgPath := "", byteOffset := 72 }
theorem v3c:Tryz.prog.underlying 37=some (.struct #[z3y,z4b,z4i,z4c,z4g,z4f,z3z]):=Tryz.underlying37
theorem v0v:Tryz.prog.cellsOf 26=4:=by kernel_rfl
theorem v0x:Tryz.prog.cellsOf 23=2:=by kernel_rfl
theorem v0z:Tryz.prog.cellsOf 37=7:=by kernel_rfl
theorem x1p:Tryz.prog.cellsOf 24=1:=by kernel_rfl
theorem y0s:Tryz.prog.cellsOf 3=1:=by kernel_rfl
theorem v0w:Tryz.prog.cellsOf 2=1:=by kernel_rfl
theorem v0y:Tryz.prog.cellsOf 9=1:=by kernel_rfl
theorem Bw{a:Int}(h:(Lit.int .u32 a).wf=true):0<=a/\a<=4294967295:=by
 have h1:IntKind.u32.min=0:=by decide
 have h2:IntKind.u32.max=4294967295:=by decide
 simp [Lit.wf] at h;omega
theorem Bv{a:Int}(h:(Lit.int .i64 a).wf=true):-9223372036854775808<=a/\a<=9223372036854775807:=by
 have h1:IntKind.i64.min=-9223372036854775808:=by decide
 have h2:IntKind.i64.max=9223372036854775807:=by decide
 simp [Lit.wf] at h;omega
theorem v4l{α:Type}{l:List α}(h:l.length=4):∃ a b c d,l=[a,b,c,d]:=by
 rcases l with _|⟨a,_|⟨b,_|⟨c,_|⟨d,_|⟨e,l⟩⟩⟩⟩⟩ <;> simp at h
 exact ⟨a,b,c,d,rfl⟩
theorem v4f{α:Type}{l:List α}(h:l.length=7):∃ a b c d e f g,l=[a,b,c,d,e,f,g]:=by
 rcases l with _|⟨a,_|⟨b,_|⟨c,_|⟨d,_|⟨e,_|⟨f,_|⟨g,_|⟨i,l⟩⟩⟩⟩⟩⟩⟩⟩ <;> simp at h
 exact ⟨a,b,c,d,e,f,g,rfl⟩
theorem z8e{H:Type}{enc:TypeId × Value->H}{W:World}{b0:Nat}{v:Value}{d:DataW H}{ps:List MemPlace}(hv:Value.okWide Tryz.prog W .any b0 26 v)(h:DataW.Trod enc Tryz.prog W 0 (fun _=>true) true 26 v d ps) :
 ∃ (en mn:Int) (sd:Nat) (mx:Int),v=.agg #[.int .i64 en,.int .i64 mn,.int .u32 sd,.int .i64 mx]/\sd<4294967296:=by
 obtain ⟨cs,rfl,hsz⟩:=okWide_struct x6s hv;obtain ⟨l⟩:=cs;obtain ⟨fuel,hf⟩:=h;obtain ⟨xs,n,_,_,_,hxl,hfs⟩:=DataW.trod_struct x6s hf;rw [v0v] at hsz;have hl:l.length=4:=hsz;have f0:=hfs 0 y1a rfl;have f1:=hfs 1 z4h rfl;have f2:=hfs 2 z4e rfl;obtain ⟨v0,v1,v2,v3,rfl⟩:=v4l hl
 replace hxl:xs.length=3:=hxl
 rw [show (Value.cells (.agg ⟨[v0,v1,v2,v3]⟩)).toList=[v0,v1,v2,v3] from rfl] at f0 f1 f2;simp only [y1a,z4h,z4e,v0x,x1p,y0s,List.drop_zero,List.take_succ_cons,List.take_zero,List.drop_succ_cons] at f0 f1 f2;rw [lAa (show 0<xs.length by omega)] at f0;rw [lAa (show 1<xs.length by omega)] at f1;rw [lAa (show 2<xs.length by omega)] at f2;obtain ⟨ys,n',_,_,_,hyl,hgs⟩:=DataW.trod_struct v3b f0;have g0:=hgs 0 z4a rfl;have g1:=hgs 1 z4d rfl
 replace hyl:ys.length=2:=hyl
 simp only [z4a,z4d,y0s,List.drop_zero,List.take_succ_cons,List.take_zero,List.drop_succ_cons] at g0 g1;rw [lAa (show 0<ys.length by omega)] at g0;rw [lAa (show 1<ys.length by omega)] at g1;obtain ⟨k0,hk0,_,_⟩:=DataW.trod_int Tryz.underlying3 g0;obtain ⟨k1,hk1,_,_⟩:=DataW.trod_int Tryz.underlying3 g1;obtain ⟨k2,hk2,_,w2⟩:=DataW.trod_int Tryz.underlying24 f1;obtain ⟨k3,hk3,_,_⟩:=DataW.trod_int Tryz.underlying3 f2;simp only [List.cons.injEq,and_true] at hk0 hk1 hk2 hk3;subst hk0 hk1 hk2 hk3;obtain ⟨h1,h2⟩:=Bw w2;refine ⟨k0,k1,k2.toNat,k3,?_,by omega⟩;rw [Int.toNat_of_nonneg h1]
end Go.Proofs.YtcklcmafohlflaaGreatDoor

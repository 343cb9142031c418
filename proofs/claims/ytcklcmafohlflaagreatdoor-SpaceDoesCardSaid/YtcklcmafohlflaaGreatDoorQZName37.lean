/- Texts of one kind in one: ZName, SpShown, SpEntries, ZNil, SpPuts, SpPair, SpLike, SpPairs, SpLike2, SpSets, SpOff. -/
import Derived.Test.YtcklcmafohlflaaGreatDoorQSpRefRen36
set_option maxRecDepth 200000
set_option maxHeartbeats 8000000
namespace Go.Proofs.YtcklcmafohlflaaGreatDoor
open Zc (Ent Ext KeepC Ym Z9 Zg Xg Zx Zb Zv Yo Y5 Ze Zz Z4 Zd)
open Go.RowKit Go.Shelf Sk
attribute [local go_sem] Oper.semAt_some
def ba(l:List UInt8):ByteArray:=⟨l.toArray⟩
def Zf(s:ByteArray):ByteArray:=s.extract 0 (min s.size 70)
theorem Xl(s:ByteArray):(Zf s).size<=70:=by unfold Zf;rw [ByteArray.size_extract];omega
theorem V5(s:ByteArray)(hs:s.size<=9223372036854775807)(w:World):Calls Tryz.prog 14 #[.string s] w fun e w'=>e=.returned (.string (Zf s))/\w'=w:=by
 unfold Zf
 by_cases h:s.size<=70
 ·have h1:min (s.size:Int) 70=s.size:=by omega
  have h2:min s.size 70=s.size:=by omega
  rw [h2];have h3:(s.size:Int)<=s.size:=Int.le_refl _
  go_enter Tryz.func14,Tryz.ntmps14
  go_wp2;go_ret;exact ⟨by simp,rfl⟩
 ·have h1:min (s.size:Int) 70=70:=by omega
  have h2:min s.size 70=70:=by omega
  rw [h2];have h3:(70:Int)<=s.size:=by omega
  go_enter Tryz.func14,Tryz.ntmps14
  go_wp2;go_ret;exact ⟨rfl,rfl⟩
def SpOwn(w0 w:World)(p:Nat)(en mn:Int)(sd c:Nat)(L:List Th):Prop:=∃ S,SpSt w p en mn sd c L S/\(∀ k,S k->w0.heap.size<=k)/\Bl w0 w
section
variable {w0 w w' w1 w2:World} {p c c' sd:Nat} {S:Nat->Prop} {en mn:Int} {L L':List Th} {t:Th}
theorem SpOwn.below(h:SpOwn w0 w p en mn sd c L):Bl w0 w:=by obtain ⟨S,_,_,h⟩:=h;exact h
theorem SpOwn.env(h:SpOwn w0 w p en mn sd c L)(hE:EnvE w0):EnvE w:=hE.later h.below
theorem SpOwn.of(h2:∀ k,S k->w0.heap.size<=k)(h3:Bl w0 w)(g:SpNow w p en mn sd c' S L' w'):SpOwn w0 w' p en mn sd c' L':=by
 obtain ⟨S',g1,g2,g3⟩:=g;refine ⟨S',g1,fun k hk=>?_,h3.trans (g3.below h2 h3.size)⟩;rcases g2 k hk with h|h
 ·exact h2 k h
 ·exact lAe h3.size h
theorem SpOwn.later(h:SpOwn w0 w p en mn sd c L)(hb:Bl w w'):SpOwn w0 w' p en mn sd c L:=by
 obtain ⟨S,h1,h2,h3⟩:=h;exact .of h2 h3 (.same h1 hb)
theorem z5f(hE:EnvE w0)(h2:∀ k,S k->w0.heap.size<=k):¬ S 0:=fun h=>by have:=h2 0 h;have:=hE.lt;omega
theorem y5u(en mn mx:Int)(sd:Nat)(hsd:sd<4294967296)(c:Nat)(w:World) :
 Calls Tryz.prog 5 #[.agg #[.int .i64 en,.int .i64 mn,.int .u32 sd,.int .i64 mx]] w fun e w'=>∃ p,e=.returned (.pointer (some ⟨p,0,none⟩))/\SpOwn w w' p en mn sd c []:=by
 refine (v2q en mn mx sd hsd c w).mono ?_;rintro e w' ⟨p,S,rfl,h1,h2,h3⟩;exact ⟨p,rfl,S,h1,h2,h3⟩
theorem x4h(hE:EnvE w0)(h:SpOwn w0 w p en mn sd c L)(hc:c<=10000)(k:ByteArray)(hk:k.size<=281474976710656)(now:Int)(hnow:Lf.I64 now) :
 Calls Tryz.prog 20 #[.pointer (some ⟨p,0,none⟩),.string k,.int .i64 now] w fun e w'=>∃ a L',e=.returned (.tuple #[.pointer a,.int .i64 (Yu L k now)])/\SpOwn w0 w' p en mn sd c L'/\Og L k now a L':=by
 have hw:=h.env hE;obtain ⟨S,h1,h2,h3⟩:=h;refine (y6j h1 hw (z5f hE h2) hc k hk now hnow).mono ?_;rintro e w' ⟨a,L',rfl,hn,hm⟩;exact ⟨a,L',rfl,.of h2 h3 hn,hm⟩
theorem x4g(h:SpOwn w0 w p en mn sd c L)(k:ByteArray)(hk:k.size<=281474976710656) :
 Calls Tryz.prog 15 #[.pointer (some ⟨p,0,none⟩),.string k] w fun e w'=>e=.returned (.tuple #[.pointer (Fr L k),.bool (Y4 L k).isSome])/\SpOwn w0 w' p en mn sd c L:=by
 obtain ⟨S,h1,h2,h3⟩:=h;refine (y6i h1 k hk).mono ?_;rintro e w' ⟨rfl,hn⟩;exact ⟨rfl,.of h2 h3 hn⟩
theorem y2u(hE:EnvE w0)(h:SpOwn w0 w p en mn sd c L)(f k:ByteArray)(hf:f.size<=281474976710656)(hk:k.size<=281474976710656) :
 Calls Tryz.prog 21 #[.pointer (some ⟨p,0,none⟩),.string f,.string k] w fun e w'=>∃ L',e=.returned (.int .i64 (Ih L f k))/\SpOwn w0 w' p en mn sd c L'/\Ki L f k L':=by
 have hw:=h.env hE;obtain ⟨S,h1,h2,h3⟩:=h;refine (z3e h1 hw (z5f hE h2) f k hf hk).mono ?_;rintro e w' ⟨L',rfl,hn,hm⟩;exact ⟨L',rfl,.of h2 h3 hn,hm⟩
theorem z8i(h:SpOwn w0 w p en mn sd c L)(hc:c<=1000) :
 Calls Tryz.prog 8 #[.pointer (some ⟨p,0,none⟩)] w fun e w'=>e=.returned (.int .i64 (V8 (itl L):Nat))/\SpOwn w0 w' p en mn sd c L:=by
 have h0:=h;obtain ⟨S,h1,h2,h3⟩:=h;refine (y6k h1 hc).mono ?_;rintro e w' ⟨rfl,hb⟩;exact ⟨rfl,h0.later hb⟩
end
theorem z9l:Yu [] (ba [107]) 0=0/\V8 (itl [])=64/\V8 [⟨ba [107],5,0,false,[]⟩]=115:=by
 refine ⟨?_,?_,?_⟩ <;> decide +kernel
theorem y9r(w:World)(hE:EnvE w):Calls Tryz.prog 4 #[] w fun e w'=>e=.returned (.bool true)/\Bl w w':=by
 obtain ⟨f1,f2,f3⟩:=z9l;have HN:=jY (y5u 9 9 0 0 (by decide) 0 w);have HA:=fun W p (h:SpOwn w W p 9 9 0 0 [])=>jY (z8i h (by decide));have HB:=fun W p (h:SpOwn w W p 9 9 0 0 [])=>jY (x4h hE h (by decide) (ba [107]) (by decide) 0 (by unfold Lf.I64;omega));have HC:=fun W p t (h:SpOwn w W p 9 9 0 0 [t])=>jY (x4g h (ba [107]) (by decide));have HD:=fun W p t (h:SpOwn w W p 9 9 0 0 [t])=>jY (y2u hE h (ba [120]) (ba [121]) (by decide) (by decide));have HF:=fun W p t (h:SpOwn w W p 9 9 0 0 [t])=>jY (z8i h (by decide));rw [f1] at HB;rw [f2] at HA;unfold ba at *;clear hE
 go_enter Tryz.func4,Tryz.ntmps4
 go_wp2_with fail;refine HN.out.mono ?_;rintro e w1 ⟨p,rfl,h1⟩;have HA1:=HA w1 p h1;clear h1 HA HN;go_wp2_with fail;refine HA1.out.mono ?_;rintro e w2 ⟨rfl,h2⟩;have HB2:=HB w2 p h2;clear h2 HA1 HB;go_wp2_with fail;refine HB2.out.mono ?_;rintro e w3 ⟨a,L',rfl,h3,hm⟩
 obtain ⟨t,rfl,ht⟩:∃ t,L'=[t]/\t.toIt=⟨{ data:=#[107] },5,0,false,[]⟩:=by
  rcases hm with ⟨h,_⟩|⟨_,_,t,_,_,_,⟨h,_⟩|⟨_,_,_,h,ht⟩⟩
  ·exact absurd f1 h
  ·cases h
  ·exact ⟨t,h,ht⟩
 have g1:(Y4 [t] { data:=#[107] }).isSome=true:=by
  have:t.key={ data:=#[107] }:=by rw [ht]
  unfold Y4;simp [this]
 have g2:Ih [t] { data:=#[120] } { data:=#[121] }=141:=by
  have:t.key={ data:=#[107] }:=by rw [ht]
  have hn:({ data:=#[107] }:ByteArray)≠{ data:=#[120] }:=by decide
  unfold Ih Y4;simp [this,hn]
 have g3:V8 (itl [t])=115:=by
  rw [show itl [t]=[t.toIt] from rfl,ht];exact f3
 have HC3:=HC w3 p t h3;have HD3:=fun W (h:SpOwn w W p 9 9 0 0 [t])=>HD W p t h;have HF3:=fun W (h:SpOwn w W p 9 9 0 0 [t])=>HF W p t h;rw [g1] at HC3;rw [g2] at HD3;rw [g3] at HF3
 have HM:=jY (show ∀ L',Ki [t] { data:=#[120] } { data:=#[121] } L'->L'=[t] from fun L' h=>by
  rcases h with ⟨_,h⟩|⟨h,_⟩|⟨h,_⟩
  ·exact h
  ·rw [g2] at h;cases h
  ·rw [g2] at h;cases h)
 generalize Fr [t] { data:=#[107] }=ad at HC3;clear h3 hm ht HC HD HF HB2 g1 g2 g3 f1 f2 f3;go_wp2_with fail;refine HC3.out.mono ?_;rintro e w4 ⟨rfl,h4⟩;have HD4:=HD3 w4 h4;clear h4 HD3 HC3;go_wp2_with fail;refine HD4.out.mono ?_;rintro e w5 ⟨L',rfl,h5,hm⟩;obtain rfl:=HM.out _ hm;have HF5:=HF3 w5 h5;clear h5 hm HD4 HF3 HM
 go_wp2_with (first
  | (go_at_call 8;refine HF5.out.mono ?_;rintro e w6 ⟨rfl,h6⟩;have H6:=jY h6;clear h6))
 go_ret;exact ⟨rfl,H6.out.below⟩
def Kd(d:Int)(k t m:ByteArray)(sc n dr:Int):Value:=.agg #[.int .i64 d,.string k,.string t,.string m,.int .i64 sc,.int .i64 n,.int .u32 dr]
def A6(n:Int):Nat:=(n % 18446744073709551616 % 6).toNat
def Gs(m:ByteArray)(sc:Int)(j:Nat):List En:=(List.range j).map fun i=>((Zf m).extract 0 (min i (Zf m).size),sc)
theorem y7g(m:ByteArray)(sc:Int)(j:Nat):Gs m sc (j+1)=Gs m sc j++[((Zf m).extract 0 (min j (Zf m).size),sc)]:=by
 unfold Gs;rw [List.range_succ,List.map_append];rfl
theorem z7c(m:ByteArray)(sc:Int)(j:Nat):(Gs m sc j).length=j:=by unfold Gs;simp
theorem Bs(w:World)(o:Obj):(w.alloc o).heap.size=w.heap.size+1:=Array.size_push _
theorem x7x(n:Int):wrap64 ((IntKind.u64.wrap n).tmod 6)=(A6 n:Int):=by
 have h:IntKind.u64.wrap n=n % 18446744073709551616:=rfl;rw [h,Int.tmod_eq_emod_of_nonneg (by omega)];unfold wrap64 A6;omega
def LoadsX(b:Nat)(m:ByteArray)(sc n:Int)(W:World):Prop:=W.cell? ⟨b,3,none⟩=some (.string m)/\W.cell? ⟨b,4,none⟩=some (.int .i64 sc)/\W.cell? ⟨b,5,none⟩=some (.int .i64 n)
theorem LoadsX.below{W W':World}{B b:Nat}{m:ByteArray}{sc n:Int}(h:LoadsX b m sc n W)(hb:Below B W W')(hB:b<B):LoadsX b m sc n W':=by
 obtain ⟨h1,h2,h3⟩:=h;exact ⟨(hb.cell hB).trans h1,(hb.cell hB).trans h2,(hb.cell hB).trans h3⟩
theorem Ks(d:Int)(k t m:ByteArray)(sc n dr:Int)(hm:m.size<=9223372036854775807)(w:World) :
 Calls Tryz.prog 27 #[Kd d k t m sc n dr] w fun e w'=>∃ v,e=.returned v/\K8 w' w.heap.size v (Gs m sc (A6 n))/\Bl w w':=by
 have HN:=fun W=>jY (V5 m hm W);have hns:=Xl m;have h6:A6 n<=5:=by unfold A6;omega
 have hn0:=x7x n;have HE:=jY (y7g m sc);have HLN:=jY (z7c m sc)
 have HX:=jY (show LoadsX w.heap.size m sc n (w.alloc (.cells #[.int .i64 d,.string k,.string t,.string m,.int .i64 sc,.int .i64 n,.int .u32 dr] 37)) from
  have hB:=Blk.new w 37 #[.int .i64 d,.string k,.string t,.string m,.int .i64 sc,.int .i64 n,.int .u32 dr]
  ⟨hB.cell 3,hB.cell 4,hB.cell 5⟩)
 have HW0:=jY (Z0 w (.cells #[.int .i64 d,.string k,.string t,.string m,.int .i64 sc,.int .i64 n,.int .u32 dr] 37));have hw0:=Bs w (.cells #[.int .i64 d,.string k,.string t,.string m,.int .i64 sc,.int .i64 n,.int .u32 dr] 37);have HO:Hid (K8 (w.alloc (.cells #[.int .i64 d,.string k,.string t,.string m,.int .i64 sc,.int .i64 n,.int .u32 dr] 37)) (w.heap.size+1) (.slice none 0 0) (Gs m sc 0)):=⟨rfl,.inl ⟨rfl,rfl⟩⟩;unfold Kd;generalize hl:Gs m sc=EL at *;generalize hnn:A6 n=N at *;generalize Zf m=nm at *;clear hl hm hnn
 go_enter Tryz.func27,Tryz.ntmps27
 go_wp2_with fail;generalize w.alloc (.cells #[.int .i64 d,.string k,.string t,.string m,.int .i64 sc,.int .i64 n,.int .u32 dr] 37)=w0 at *
 go_loopw [3,4] (fun r i wr=>∃ (j:Nat),i=.int .i64 j/\j<=N/\K8 wr (w.heap.size+1) r (EL j)/\Below (w.heap.size+1) w0 wr) (fun _ i _=>N-(intOf i).toNat)
 case atStart=>exact ⟨0,rfl,by omega,HO.out,Below.refl _ _⟩
 case round =>
  obtain ⟨j,rfl,hj,hO,hb⟩:=hrel;obtain ⟨x1,x2,x3⟩:=HX.out.below hb (by omega);have hbs:=hb.size;have HB:=jY hb;have HOJ:=jY hO;clear hO hb HO
  by_cases hlt:j<N
  ·have hlt2:(j:Int)<N:=by omega
   have S0:LoadsX w.heap.size m sc n wr.drew:=⟨x1,x2,x3⟩;clear x1 x2;go_wp2_with fail
   refine Sched.Yj [(0,true),(1,true),(2,true),(4,true),(5,true),(6,true),(11,true),(12,true),(3,false),(7,false),(8,true),(9,true),(10,true),(13,true),(14,false),(15,false),(16,true)]
    (LoadsX w.heap.size m sc n) (by kernel_rfl) (by kernel_rfl) rfl (by kernel_rfl) (fun _ _ _ d _ h=>by cases d <;> exact h) S0 ?_
   intro L hL;simp only [Sched.Qw,List.getElem?_toArray,List.getElem?_cons_zero,List.getElem?_cons_succ] at hL;subst hL
   repeat (first
    | (refine Sched.Zj (v:=?_) (by rfl) ?_ ?_
       rotate_left
       (focus (intro w' hSw;obtain ⟨l0,l1,l2⟩:=hSw;go_simp;(try with_reducible rfl);done))
       simp only [Act.put,List.setIfInBounds_toArray,List.set_cons_zero,List.set_cons_succ]))
   refine Sched.Zo (by rfl) fun K' hK=>?_
   go_simp
   refine (HN _).out.mono ?_;rintro e w1 ⟨rfl,rfl⟩
   go_simp
   refine hK _ _ S0 ?_;clear hK K';refine Sched.Zo (by rfl) fun K' hK=>?_
   go_simp
   refine (HN _).out.mono ?_;rintro e w1 ⟨rfl,rfl⟩
   go_simp
   refine hK _ _ S0 ?_;clear hK K' HN;have hNX:=HE.out j;generalize he:nm.extract 0 (min j nm.size)=ne at hNX
   repeat (first
    | (refine Sched.Zj (v:=?_) (by rfl) ?_ ?_
       rotate_left
       (focus (intro w' hSw;obtain ⟨l0,l1,l2⟩:=hSw;go_simp;(try with_reducible rfl);done))
       simp only [Act.put,List.setIfInBounds_toArray,List.set_cons_zero,List.set_cons_succ]))
   refine Sched.Zj (v:=.string ne) (by rfl) (fun w' hSw=>?_) ?_
   ·go_simp
    have h1:0<=min (j:Int) nm.size/\min (j:Int) nm.size<=nm.size:=by omega
    rw [if_pos h1,show (min (j:Int) nm.size).toNat=min j nm.size by omega];rw [<- he]
   simp only [Act.put,List.setIfInBounds_toArray,List.set_cons_zero,List.set_cons_succ]
   repeat (first
    | (refine Sched.Zj (v:=?_) (by rfl) ?_ ?_
       rotate_left
       (focus (intro w' hSw;obtain ⟨l0,l1,l2⟩:=hSw;go_simp;(try with_reducible rfl);done))
       simp only [Act.put,List.setIfInBounds_toArray,List.set_cons_zero,List.set_cons_succ]))
   refine Sched.Zo (by rfl) fun K' hK=>?_
   go_simp
   have hX2:=HOJ.out;obtain ⟨g3,cap3,W7,hrun,hO7,hg7⟩:=Bb (W6:=wr.drew) (show K8 wr.drew (w.heap.size+1) u3 (EL j) from hX2) (Below.refl _ _) (ne,sc) (by rw [HLN.out];omega) (show w.heap.size+1<=wr.heap.size by omega);have hfr:=fun (k:Nat) (e:u3.ownBlock=some k)=>World.ownsRow.lt hX2 k e;have S1:LoadsX w.heap.size m sc n (wr.drew.alloc (.cells #[.string ne,.int .i64 sc] 94)):=S0.below (Z0 _ _) (show w.heap.size<wr.heap.size by omega)
   have S2:LoadsX w.heap.size m sc n W7 :=
    ⟨hg7.cell S1.1 (fun e=>by have:=(hfr _ e.symm).1;simp only at this;omega),hg7.cell S1.2.1 (fun e=>by have:=(hfr _ e.symm).1;simp only at this;omega),hg7.cell S1.2.2 (fun e=>by have:=(hfr _ e.symm).1;simp only at this;omega)⟩
   have hb7:Below (w.heap.size+1) w0 W7:=by
    have h0:Below (w.heap.size+1) w0 wr.drew:=HB.out.drew;exact (h0.alloc (show w.heap.size+1<=wr.heap.size by omega) _).grown hg7 (by rw [Bs];show w.heap.size+1<=wr.heap.size+1;omega) (fun k e=>(hfr k e).1)
   rw [HLN.out] at hrun hO7;have HB7:=jY hb7;have HO7:=jY hO7;clear hb7 hO7 hg7 hfr hX2;refine hK _ _ S1 ?_;clear hK K';refine Sched.Zo (by rfl) fun K' hK=>?_;refine Pb (.tmp 14) (.tmp 28) 55 55 rfl rfl rfl hrun ?_
   go_simp
   refine hK _ _ S2 ?_;clear hK K';refine Sched.Zj (v:=.slice (some ⟨g3,0,none⟩) (j+1) cap3) (by rfl) (fun w' _=>by go_simp) ?_;simp only [Act.put,List.setIfInBounds_toArray,List.set_cons_zero,List.set_cons_succ];refine Sched.Xf ?_;clear S0 S1 S2 hrun x3;go_wp2;refine ⟨⟨j+1,by go_num,by omega,?_,HB7.out⟩,by simp [intOf];omega⟩;rw [hNX];exact HO7.out
  ·have hlt2:wrap64 ((IntKind.u64.wrap n).tmod 6)<=(j:Int):=by omega
   obtain rfl:j=N:=by omega
   have hO9:=J6 HOJ.out (show w.heap.size<=w.heap.size+1 by omega);have HB9:=jY (HW0.out.trans (HB.out.mono (by omega)));have HO9:=jY hO9;clear hO9 HB HOJ HW0 HN HE HLN HX;go_wp2_with fail;go_ret;exact ⟨_,rfl,HO9.out,HB9.out⟩
theorem y5o(w:World):Calls Tryz.prog 49 #[.pointer none] w fun e w'=>∃ b,e=.returned (.iface 148 (.pointer (some ⟨b,0,none⟩)))/\PackAt w' b []/\w.heap.size<=b/\Bl w w':=by
 have HN:=fun W=>jY (Pk.Uv W)
 go_enter Tryz.func49,Tryz.ntmps49
 go_wp2_with fail;refine (HN _).out.mono ?_;rintro e w1 ⟨rfl,rfl⟩;go_wp2_with fail;go_ret;exact ⟨_,rfl,⟨Blk.new _ _ _,A4⟩,lAd _,Z0 _ _⟩
theorem x8v(w:World):Calls Tryz.prog 19 #[.pointer none] w fun e w'=>e=.returned (.int .i64 0)/\Bl w w':=by
 have HN:=jY (y5o w)
 go_enter Tryz.func19,Tryz.ntmps19
 go_wp2_with fail;refine HN.out.mono ?_;rintro e w1 ⟨b,rfl,hp,_,hb⟩;have HB:=jY hb;have HL:=jY (z2p hp);clear hb hp;go_wp2_with fail;refine HL.out.mono ?_;rintro e w2 ⟨rfl,hb⟩;have HB2:=jY (HB.out.trans (hb.mono HB.out.size));clear hb;go_wp2_with fail;go_ret;exact ⟨rfl,HB2.out⟩
theorem y7y(f t:Int)(w:World):Calls Tryz.prog 18 #[.pointer none,.int .i64 f,.int .i64 t] w fun e w'=>∃ a c,e=.returned (.slice a 0 c)/\Bl w w':=by
 have HN:=jY (y5o w)
 go_enter Tryz.func18,Tryz.ntmps18
 go_wp2_with fail;refine HN.out.mono ?_;rintro e w1 ⟨b,rfl,hp,_,hb⟩;have HB:=jY hb;have HL:=jY (z5g hp f t);clear hb hp;go_wp2_with fail;refine HL.out.mono ?_;rintro e w2 ⟨r,rfl,hr,hb⟩;have HB2:=jY (HB.out.trans (hb.mono HB.out.size));obtain ⟨a,c,rfl⟩:=hr.form;have h0:(Ua [] f t).length=0:=by rw [P0];unfold t0;simp;omega
 rw [h0];clear hb hr h0;go_wp2_with fail;go_ret;exact ⟨a,c,rfl,HB2.out⟩
def x0x(W W':World):Prop:=∀ n0 v l,Row W n0 v l->Row W' n0 v l
section
variable {w0 w w' w1 w2:World} {p c c' sd s:Nat} {S:Nat->Prop} {en mn:Int} {L L':List Th} {t:Th}
theorem SpSt.rows(h:SpSt w p en mn sd c L S)(hf:Far S w w'):x0x w w':=fun _ _ _ hr=>hr.far hf fun _ _ _ hb=>h.no hb (by decide)
theorem I6{W:World}{n0:Nat}{v:Value}{l:List En}(h:K8 W n0 v l):Row W n0 v l:=Mp h
variable {k:ByteArray} {F l:List En}
end
structure PairSp (w0 W:World) (p rp:Nat) (en mn:Int) (sd:Nat) (mx:Int) (c:Nat) (L:List Th) (R:List Rt):Prop where
 env:EnvE w0
 ex:∃ S T,SpSt W p en mn sd c L S/\RefSp W rp en mn sd mx R T/\(∀ k,S k->w0.heap.size<=k)/\∀ k,T k->w0.heap.size<=k
 below:Bl w0 W
section
variable {w0 W W':World} {p rp sd c c':Nat} {en mn mx:Int} {L L':List Th} {R R':List Rt} {S T:Nat->Prop}
def KeepB(W W':World):Prop:=∀ b t c,t ∉ spT->t ∉ z8y->Blk W b t c->Blk W' b t c
structure PairK (w0 W W':World) (p rp:Nat) (en mn:Int) (sd:Nat) (mx:Int) (c:Nat) (L:List Th) (R:List Rt):Prop where
 pair:PairSp w0 W' p rp en mn sd mx c L R
 keep:KeepB W W'
theorem y3i:∀ t∈z8y,t ∉ spT:=by decide
theorem SpSt.notRef(h:SpSt W p en mn sd c L S)(g:RefSp W rp en mn sd mx R T){k:Nat}(hk:S k):¬ T k:=fun ht=>by
 obtain ⟨t,cc,hc,hm⟩:=g.kind ht;exact h.no hc (y3i t hm) hk
theorem PairSp.envW(h:PairSp w0 W p rp en mn sd mx c L R):EnvE W:=h.env.later h.below
theorem PairSp.prog(h:PairSp w0 W p rp en mn sd mx c L R)(hS:SpSt W p en mn sd c L S)(hT:RefSp W rp en mn sd mx R T)(hs:∀ k,S k->w0.heap.size<=k)(ht:∀ k,T k->w0.heap.size<=k)(hn:SpNow W p en mn sd c' S L' W'):PairK w0 W W' p rp en mn sd mx c' L' R:=by
 obtain ⟨S',h1,h2,h3⟩:=hn;refine ⟨⟨h.env,⟨S',T,h1,hT.far h3 (fun k hk hk2=>hS.notRef hT hk2 hk) (fun k cur hb=>hS.no hb (by decide)),fun k hk=>?_,ht⟩,h.below.trans (h3.below hs h.below.size)⟩,fun b t c ht1 _ hb=>h3.blk hb (hS.no hb ht1)⟩;rcases h2 k hk with h|h1
 ·exact hs k h
 ·exact lAe h.below.size h1
theorem PairSp.ref(h:PairSp w0 W p rp en mn sd mx c L R)(hS:SpSt W p en mn sd c L S)(hT:RefSp W rp en mn sd mx R T)(hs:∀ k,S k->w0.heap.size<=k)(ht:∀ k,T k->w0.heap.size<=k)(hn:RefNow W rp en mn sd mx T R' W'):PairK w0 W W' p rp en mn sd mx c L R':=by
 obtain ⟨T',h1,h2,h3⟩:=hn;refine ⟨⟨h.env,⟨S,T',hS.far h3 (fun k hk=>hS.notRef hT hk),h1,hs,fun k hk=>?_⟩,h.below.trans (h3.below ht h.below.size)⟩,fun b t c _ ht2 hb=>h3.blk hb (hT.no hb ht2)⟩;rcases h2 k hk with h|h1
 ·exact ht k h
 ·exact lAe h.below.size h1
theorem PairSp.later(h:PairSp w0 W p rp en mn sd mx c L R)(hb:Bl W W'):PairK w0 W W' p rp en mn sd mx c L R:=by
 obtain ⟨S,T,h1,h2,h3,h4⟩:=h.ex;exact h.prog h1 h2 h3 h4 (.same h1 hb)
theorem PairSp.no0(h:PairSp w0 W p rp en mn sd mx c L R)(hs:∀ k,S k->w0.heap.size<=k):¬ S 0:=z5f h.env hs
structure Alike (en mn:Int) (L:List Th) (R:List Rt):Prop where
 keys:Y6 (itl L)
 perm:(itl L).Perm (itr R)
 fit:∀ x∈itl L,FitE x.isL (Z6 en 200) (Z6 mn 64) x.E
 ksz:∀ x∈itl L,x.key.size<=64
 srt:Qn R
theorem Alike.rkeys(h:Alike en mn L R):Y6 (itr R):=(h.perm.map It.key).nodup h.keys
theorem Alike.rksz(h:Alike en mn L R):∀ x∈R,x.key.size<=281474976710656:=fun x hx=>lAe (h.ksz x.toIt (h.perm.mem_iff.2 (List.mem_map.2 ⟨x,hx,rfl⟩))) (by decide)
theorem Alike.len(h:Alike en mn L R):L.length=R.length:=by
 have:=h.perm.length_eq
 unfold itl itr at this
 simpa using this
theorem Ab(hk:Y6 (itr R))(k:ByteArray):(Xy (itr R) k).isSome=decide (0<=atR R k):=by
 by_cases h:0<=atR R k
 ·obtain ⟨i,x,_,hx,hxk,_⟩:=O7 h;rw [x8d hk (lAc hx) hxk,decide_eq_true h];rfl
 ·rw [y5h (Mc h).2,decide_eq_false h];rfl
theorem Alike.there(h:Alike en mn L R)(k:ByteArray):(Y4 L k).isSome=decide (0<=atR R k):=by
 rw [<- Qd,<- Ab h.rkeys,Df h.keys h.perm]
theorem Alike.made(h:Alike en mn L R)(k:ByteArray)(now:Int):Yu L k now=U6 R k now:=by
 unfold Yu U6;rw [h.there k,h.len]
 by_cases h0:0<=atR R k <;> simp [h0]
theorem Alike.ren(h:Alike en mn L R)(f k:ByteArray):Ih L f k=C6 R f k:=by
 unfold Ih C6;rw [h.there f]
 by_cases h0:0<=atR R f <;> simp [h0]
theorem Alike.empty(h:Alike en mn L R)(k:ByteArray):Yg (itl L) k=Yg (itr R) k:=by
 unfold Yg;rw [Df h.keys h.perm]
end
section
variable {en mn now:Int} {L L':List Th} {R R':List Rt} {k f:ByteArray} {a b:Option Addr}
theorem I5{I:List It}{x:It}(h:x∈Vx I k):x∈I:=(Fa.1 h).1
theorem Alike.del(h:Alike en mn L R)(k:ByteArray)(hk:Y6 (itl (Yl L k))):Alike en mn (Yl L k) (Y0 R k []):=by
 have e:=Oa h.keys k;refine ⟨hk,?_,fun x hx=>h.fit x (I5 (e ▸ hx)),fun x hx=>h.ksz x (I5 (e ▸ hx)),Qh h.srt (fun x hx=>by cases hx) (by simp)⟩;rw [e]
 have:=Ow R k []
 rw [show itr ([]:List Rt)=[] from rfl,List.append_nil] at this;exact (Dx h.perm k).trans this.symm
theorem Alike.make(h:Alike en mn L R)(hm:Og L k now a L')(hr:Ol R k now b R')(hk:Y6 (itl L')):Alike en mn L' R':=by
 have hmm:=h.made k now;have hth:=h.there k;rcases hm with ⟨h0,_,rfl⟩|⟨h0,hk64,t,ht,htk,_,hor⟩
 ·rcases hr with ⟨_,_,rfl⟩|⟨h1,_⟩
  ·exact h
  ·exact absurd (hmm.trans h1) h0
 ·rcases hr with ⟨h1,_⟩|⟨_,_,x,hx,hxk,_,hor2⟩
  ·exact absurd (hmm.symm.trans h0) h1
  ·rcases hor with ⟨htl,rfl⟩|⟨hno,_,_,rfl,hti⟩
   ·rcases hor2 with ⟨_,rfl⟩|⟨hat,_⟩
    ·exact h
    ·exfalso;rw [decide_eq_false hat] at hth
     have:=Ql h.keys htl
     rw [htk] at this;rw [this] at hth
     cases hth
   ·rcases hor2 with ⟨hxr,rfl⟩|⟨hat,_,_,rfl,hxi⟩
    ·exfalso;rw [hno] at hth;have h3:=Ab h.rkeys k;rw [x8d h.rkeys hxr hxk] at h3;rw [<- h3] at hth
     cases hth
    ·have e:itl (L++[t])=itl L++[t.toIt]:=by unfold itl;simp
     refine ⟨hk,?_,fun y hy=>?_,fun y hy=>?_,Qh h.srt (fun y hy=>by rw [lAg.1 hy];exact hxk) (by simp)⟩
     ·rw [e];have h4:=Ow R k [x];rw [show itr [x]=[x.toIt] from rfl,hxi,<- hti] at h4;refine List.Perm.trans ?_ h4.symm;refine List.Perm.append_right _ (h.perm.trans ?_)
      rw [Dw (by
       have h3:=Ab h.rkeys k;rw [decide_eq_false hat] at h3
       simpa using h3)]
     ·rw [e,List.mem_append,lAg] at hy;rcases hy with hy|rfl
      ·exact h.fit y hy
      ·rw [hti];exact y5d _ (Oq en 200 (by decide)).1
     ·rw [e,List.mem_append,lAg] at hy;rcases hy with hy|rfl
      ·exact h.ksz y hy
      ·rw [hti];exact hk64
theorem x8j{i:Nat}{x x':Rt}(hk:Y6 (itr R))(hx:R[i]?=some x):itr (R.set i x')=Fp (itr R) x.key fun _=>x'.toIt:=by
 obtain ⟨hi,hxe⟩:=lAb.1 hx;unfold itr Fp;rw [List.map_set,List.map_map]
 apply List.ext_getElem?
 intro j;rw [List.getElem?_set,List.getElem?_map,List.getElem?_map]
 by_cases e:i=j
 ·subst e;rw [if_pos rfl,if_pos (by simpa using hi),hx];simp
 ·rw [if_neg e]
  cases hj:R[j]? with
  | none=>rfl
  | some y =>
    simp only [Option.map_some,Function.comp];rw [if_neg];intro e2
    have hn:(R.map fun t=>t.key).Nodup:=by
     have:=hk
     unfold Y6 itr at this
     rwa [List.map_map] at this
    obtain ⟨hj2,hye⟩:=lAb.1 hj;exact e ((List.getElem_inj (i:=i) (j:=j) (h₀:=by simpa using hi) (h₁:=by simpa using hj2) hn).1 (by simp [hxe,hye,e2]))
theorem x4r{I:List It}(hk:Y6 I){x:It}(hx:x∈I):I.Perm (Vx I x.key++[x]):=by
 induction I with
 | nil=>cases hx
 | cons y I ih =>
   have hn:y.key ∉ I.map It.key/\Y6 I:=by
    have:=hk
    unfold Y6 at this
    rwa [List.map_cons,List.nodup_cons] at this
   rcases List.mem_cons.1 hx with rfl|h
   ·have e:Vx (x :: I) x.key=I:=by
     unfold Vx;rw [List.filter_cons];simp only [ne_eq,not_true_eq_false,decide_false,Bool.false_eq_true,if_false];rw [List.filter_eq_self];intro z hz;simp only [decide_eq_true_eq];exact fun e=>hn.1 (List.mem_map.2 ⟨z,hz,e⟩)
    rw [e];exact List.perm_append_comm (l₁:=[x])
   ·have hne:y.key≠x.key:=fun e=>hn.1 (List.mem_map.2 ⟨x,h,e.symm⟩)
    have e:Vx (y :: I) x.key=y :: Vx I x.key:=by
     unfold Vx;rw [List.filter_cons];simp [hne]
    rw [e];exact (ih hn.2 h).cons y
theorem z1p{I J:List It}(hk:Y6 I)(hp:I.Perm J){x y:It}(hx:x∈I)(hy:y∈J)(e:x.key=y.key):x=y:=z7r hk hx (hp.mem_iff.2 hy) e
theorem Alike.renTo(h:Alike en mn L R)(hm:Ki L f k L')(hr:y6r R f k R')(hk:Y6 (itl L')):Alike en mn L' R':=by
 have hmm:=h.ren f k;rcases hm with ⟨h0,rfl⟩|⟨h0,rfl,rfl⟩|⟨h0,hfk,hk64,t,ht,rfl,rfl⟩
 ·rcases hr with ⟨_,rfl⟩|⟨h1,_⟩
  ·exact h
  ·exact absurd (hmm.trans h1) h0
 ·rcases hr with ⟨h1,_⟩|⟨_,_,x,hx,rfl,rfl⟩
  ·exact absurd (hmm.symm.trans h0) h1
  ·refine ⟨h.keys,?_,h.fit,h.ksz,Qh (Qh h.srt (fun y hy=>by cases hy) (by simp)) (fun y hy=>by rw [lAg.1 hy]) (by simp)⟩;have hxi:x.toIt∈itr R:=List.mem_map.2 ⟨x,hx,rfl⟩;have h1:=Ow (Y0 R x.key []) x.key [{ x with key:=x.key }];have h2:=Ow R x.key [];rw [show itr ([]:List Rt)=[] from rfl,List.append_nil] at h2
   have h3:Vx (itr (Y0 R x.key [])) x.key=itr (Y0 R x.key []):=Dw (by
    cases hg:Xy (itr (Y0 R x.key [])) x.key with
    | none=>rfl
    | some y =>
      obtain ⟨h4,h5⟩:=Qc hg
      exact absurd h5 (Fa.1 (h2.mem_iff.1 h4)).2)
   rw [h3] at h1;exact (h.perm.trans (x4r h.rkeys hxi)).trans ((List.Perm.append_right _ h2.symm).trans h1.symm)
 ·rcases hr with ⟨h1,_⟩|⟨_,_,x,hx,hxk,rfl⟩
  ·exact absurd (hmm.symm.trans h0) h1
  ·have hti:t.toIt∈itl L:=List.mem_map.2 ⟨t,ht,rfl⟩;have hxi:x.toIt∈itr R:=List.mem_map.2 ⟨x,hx,rfl⟩;have hxt:t.toIt=x.toIt:=z1p h.keys h.perm hti hxi hxk.symm;have e1:=Oa h.keys t.key;have hk1:Y6 (itl (Yl L t.key)):=by rw [e1];exact Ai h.keys _
   have e2:=Oa hk1 k
   have e:itl (Yl (Yl L t.key) k++[t.named k])=Vx (Vx (itl L) t.key) k++[t.toIt.named k]:=by
    rw [<- e1,<- e2];unfold itl;simp [Th.named]
   have h1:=Ow (Y0 R t.key []) k [{ x with key:=k }];have h2:=Ow R t.key [];rw [show itr ([]:List Rt)=[] from rfl,List.append_nil] at h2;refine ⟨hk,?_,fun y hy=>?_,fun y hy=>?_,Qh (Qh h.srt (fun y hy=>by cases hy) (by simp)) (fun y hy=>by rw [lAg.1 hy]) (by simp)⟩
   ·rw [e,show t.toIt.named k=x.toIt.named k by rw [hxt]];refine List.Perm.trans (List.Perm.append_right _ (Dx ((Dx h.perm t.key).trans h2.symm) k)) h1.symm
   ·rw [e,List.mem_append,lAg] at hy;rcases hy with hy|rfl
    ·exact h.fit y (I5 (I5 hy))
    ·exact h.fit t.toIt hti
   ·rw [e,List.mem_append,lAg] at hy;rcases hy with hy|rfl
    ·exact h.ksz y (I5 (I5 hy))
    ·exact hk64
theorem Alike.rep{i:Nat}{t t':Th}{x x':Rt}(h:Alike en mn L R)(hqs:(L.map Th.q).Nodup)(ht:t∈L)(hq:t'.q=t.q)(hx:R[i]?=some x)(hxt:x.key=t.key)(hi:t'.toIt=x'.toIt)(hkey:t'.key=t.key)(hf:FitE t'.isL (Z6 en 200) (Z6 mn 64) t'.E)(hk:Y6 (itl (Xu L t'))):Alike en mn (Xu L t') (R.set i x'):=by
 have e1:=z4q h.keys hqs ht hq;have e2:=x8j (x':=x') h.rkeys hx
 have hmem:∀ y∈itl (Xu L t'),y∈itl L\/y=t'.toIt:=fun y hy=>by
  rw [e1] at hy;unfold Fp at hy;obtain ⟨z,hz,rfl⟩:=List.mem_map.1 hy
  by_cases e:z.key=t.key
  ·rw [if_pos e];exact .inr rfl
  ·rw [if_neg e];exact .inl hz
 refine ⟨hk,?_,fun y hy=>?_,fun y hy=>?_,y9y h.srt hx (by have:=congrArg It.key hi;exact (this.symm.trans hkey).trans hxt.symm)⟩
 ·rw [e1,e2,hxt,hi];exact y9l h.perm _ _
 ·rcases hmem y hy with h1|rfl
  ·exact h.fit y h1
  ·exact hf
 ·rcases hmem y hy with h1|rfl
  ·exact h.ksz y h1
  ·rw [hkey];exact h.ksz t.toIt (List.mem_map.2 ⟨t,ht,rfl⟩)
end
section
variable {w0 W W':World} {p rp sd c c':Nat} {en mn mx:Int} {L L':List Th} {R R':List Rt} {S T:Nat->Prop}
theorem PairSp.keys(h:PairSp w0 W p rp en mn sd mx c L R):Y6 (itl L):=by obtain ⟨S,T,h1,_⟩:=h.ex;exact h1.keys
theorem PairSp.qs(h:PairSp w0 W p rp en mn sd mx c L R):(L.map Th.q).Nodup:=by obtain ⟨S,T,⟨d,SD,rv,sh,g,_⟩,_⟩:=h.ex;exact g.qs
theorem PairSp.len(h:PairSp w0 W p rp en mn sd mx c L R):L.length<=500:=by obtain ⟨S,T,h1,_⟩:=h.ex;exact h1.len
theorem y8f(h:PairSp w0 W p rp en mn sd mx c L R)(hc:c<=10000)(k:ByteArray)(hk:k.size<=281474976710656)(now:Int)(hnow:Lf.I64 now) :
 Calls Tryz.prog 20 #[.pointer (some ⟨p,0,none⟩),.string k,.int .i64 now] W fun e W'=>∃ a L',e=.returned (.tuple #[.pointer a,.int .i64 (Yu L k now)])/\PairK w0 W W' p rp en mn sd mx c L' R/\Og L k now a L':=by
 obtain ⟨S,T,h1,h2,h3,h4⟩:=h.ex;refine (y6j h1 h.envW (h.no0 h3) hc k hk now hnow).mono ?_;rintro e W' ⟨a,L',rfl,hn,hm⟩;exact ⟨a,L',rfl,h.prog h1 h2 h3 h4 hn,hm⟩
theorem y2x(h:PairSp w0 W p rp en mn sd mx c L R)(hz:∀ x∈R,x.key.size<=281474976710656)(k:ByteArray)(hk:k.size<=281474976710656)(now:Int) :
 Calls Tryz.prog 23 #[.pointer (some ⟨rp,0,none⟩),.string k,.int .i64 now] W fun e W'=>∃ a R',e=.returned (.tuple #[.pointer a,.int .i64 (U6 R k now)])/\PairK w0 W W' p rp en mn sd mx c L R'/\Ol R k now a R':=by
 obtain ⟨S,T,h1,h2,h3,h4⟩:=h.ex;refine (z8z h2 hz k hk now).mono ?_;rintro e W' ⟨a,R',rfl,hn,hm⟩;exact ⟨a,R',rfl,h.ref h1 h2 h3 h4 hn,hm⟩
theorem x4k(h:PairSp w0 W p rp en mn sd mx c L R)(hc:c<=10000)(k:ByteArray)(hk:k.size<=281474976710656){n0:Nat}{v:Value}{l:List En}(hl:l.length<=300)(hlc:l.length<=c)(hs:∀ e∈l,Pk.Ya e.2)(hr:Row W n0 v l)(now:Int)(hnow:Lf.I64 now) :
 Calls Tryz.prog 26 #[.pointer (some ⟨p,0,none⟩),.string k,v,.int .i64 now] W fun e W'=>∃ L',e=.returned (.int .i64 (Yu L k now))/\PairK w0 W W' p rp en mn sd mx c L' R/\z1k en mn L k l now L':=by
 obtain ⟨S,T,h1,h2,h3,h4⟩:=h.ex;refine (v2r h1 h.envW (h.no0 h3) hc k hk hl hlc hs hr (fun W1 hf=>h1.rows hf n0 v l hr) now hnow).mono ?_;rintro e W' ⟨L',rfl,hn,hm⟩;exact ⟨L',rfl,h.prog h1 h2 h3 h4 hn,hm⟩
theorem y8l(h:PairSp w0 W p rp en mn sd mx c L R)(hz:∀ x∈R,x.key.size<=281474976710656)(k:ByteArray)(hk:k.size<=281474976710656)(now:Int){n0:Nat}{v:Value}{l:List En}(hl:l.length<=300)(hzl:∀ e∈l,e.1.size<=281474976710656)(hs:∀ e∈l,Pk.Ya e.2)(hr:Row W n0 v l) :
 Calls Tryz.prog 28 #[.pointer (some ⟨rp,0,none⟩),.string k,v,.int .i64 now] W fun e W'=>∃ R',e=.returned (.int .i64 (U6 R k now))/\PairK w0 W W' p rp en mn sd mx c L R'/\x0z en mn R k l now R':=by
 obtain ⟨S,T,h1,h2,h3,h4⟩:=h.ex;refine (x9i h2 hz k hk now hl hzl hs hr).mono ?_;rintro e W' ⟨R',rfl,hn,hm⟩;exact ⟨R',rfl,h.ref h1 h2 h3 h4 hn,hm⟩
theorem z8l(h:PairSp w0 W p rp en mn sd mx c L R)(k:ByteArray)(hk:k.size<=281474976710656) :
 Calls Tryz.prog 29 #[.pointer (some ⟨p,0,none⟩),.string k] W fun e W'=>e=.returned (.bool (Y4 L k).isSome)/\PairK w0 W W' p rp en mn sd mx c (Yl L k) R:=by
 obtain ⟨S,T,h1,h2,h3,h4⟩:=h.ex;refine (z3d h1 k hk).mono ?_;rintro e W' ⟨rfl,hn⟩;exact ⟨rfl,h.prog h1 h2 h3 h4 hn⟩
theorem z5i(h:PairSp w0 W p rp en mn sd mx c L R)(hz:∀ x∈R,x.key.size<=281474976710656)(k:ByteArray)(hk:k.size<=281474976710656) :
 Calls Tryz.prog 30 #[.pointer (some ⟨rp,0,none⟩),.string k] W fun e W'=>e=.returned (.bool (decide (0<=atR R k)))/\PairK w0 W W' p rp en mn sd mx c L (Y0 R k []):=by
 obtain ⟨S,T,h1,h2,h3,h4⟩:=h.ex;refine (z0a h2 hz k hk).mono ?_;rintro e W' ⟨rfl,hn⟩;exact ⟨rfl,h.ref h1 h2 h3 h4 hn⟩
theorem z2r(h:PairSp w0 W p rp en mn sd mx c L R)(k:ByteArray)(hk:k.size<=281474976710656) :
 Calls Tryz.prog 15 #[.pointer (some ⟨p,0,none⟩),.string k] W fun e W'=>e=.returned (.tuple #[.pointer (Fr L k),.bool (Y4 L k).isSome])/\PairK w0 W W' p rp en mn sd mx c L R:=by
 obtain ⟨S,T,h1,h2,h3,h4⟩:=h.ex;refine (y6i h1 k hk).mono ?_;rintro e W' ⟨rfl,hn⟩;exact ⟨rfl,h.prog h1 h2 h3 h4 hn⟩
theorem y5w(h:PairSp w0 W p rp en mn sd mx c L R)(k:ByteArray) :
 Calls Tryz.prog 13 #[.pointer (some ⟨rp,0,none⟩),.string k] W fun e W'=>e=.returned (.int .i64 (atR R k))/\W'=W:=by
 obtain ⟨S,T,h1,h2,h3,h4⟩:=h.ex;exact Ge h2 k
theorem y8h(h:PairSp w0 W p rp en mn sd mx c L R)(k:ByteArray)(hk:k.size<=281474976710656) :
 Calls Tryz.prog 33 #[.pointer (some ⟨p,0,none⟩),.string k] W fun e W'=>e=.returned (.bool (Yg (itl L) k))/\PairK w0 W W' p rp en mn sd mx c (if Yg (itl L) k then Yl L k else L) R:=by
 obtain ⟨S,T,h1,h2,h3,h4⟩:=h.ex;refine (x9u h1 k hk).mono ?_;rintro e W' ⟨rfl,hn⟩;exact ⟨rfl,h.prog h1 h2 h3 h4 hn⟩
theorem y2y(h:PairSp w0 W p rp en mn sd mx c L R)(hkeys:Y6 (itr R))(hz:∀ x∈R,x.key.size<=281474976710656)(k:ByteArray)(hk:k.size<=281474976710656) :
 Calls Tryz.prog 34 #[.pointer (some ⟨rp,0,none⟩),.string k] W fun e W'=>e=.returned (.bool (Yg (itr R) k))/\PairK w0 W W' p rp en mn sd mx c L (if Yg (itr R) k then Y0 R k [] else R):=by
 obtain ⟨S,T,h1,h2,h3,h4⟩:=h.ex;refine (x5e h2 hkeys hz k hk).mono ?_;rintro e W' ⟨rfl,hn⟩;exact ⟨rfl,h.ref h1 h2 h3 h4 hn⟩
theorem z8n(h:PairSp w0 W p rp en mn sd mx c L R)(f k:ByteArray)(hf:f.size<=281474976710656)(hk:k.size<=281474976710656) :
 Calls Tryz.prog 21 #[.pointer (some ⟨p,0,none⟩),.string f,.string k] W fun e W'=>∃ L',e=.returned (.int .i64 (Ih L f k))/\PairK w0 W W' p rp en mn sd mx c L' R/\Ki L f k L':=by
 obtain ⟨S,T,h1,h2,h3,h4⟩:=h.ex;refine (z3e h1 h.envW (h.no0 h3) f k hf hk).mono ?_;rintro e W' ⟨L',rfl,hn,hm⟩;exact ⟨L',rfl,h.prog h1 h2 h3 h4 hn,hm⟩
theorem z5k(h:PairSp w0 W p rp en mn sd mx c L R)(hz:∀ x∈R,x.key.size<=281474976710656)(f k:ByteArray)(hf:f.size<=281474976710656)(hk:k.size<=281474976710656) :
 Calls Tryz.prog 35 #[.pointer (some ⟨rp,0,none⟩),.string f,.string k] W fun e W'=>∃ R',e=.returned (.int .i64 (C6 R f k))/\PairK w0 W W' p rp en mn sd mx c L R'/\y6r R f k R':=by
 obtain ⟨S,T,h1,h2,h3,h4⟩:=h.ex;refine (y3h h2 hz f k hf hk).mono ?_;rintro e W' ⟨R',rfl,hn,hm⟩;exact ⟨R',rfl,h.ref h1 h2 h3 h4 hn,hm⟩
theorem y2w(h:PairSp w0 W p rp en mn sd mx c L R)(k:ByteArray)(hk:k.size<=281474976710656)(now d:Int)(hn:Lf.I64 now)(hd1:0<=d)(hd2:d<=4294967295) :
 Calls Tryz.prog 36 #[.pointer (some ⟨p,0,none⟩),.string k,.int .i64 now,.int .u32 d] W fun e W'=>∃ n L',e=.returned (.int .i64 n)/\PairK w0 W W' p rp en mn sd mx c L' R/\M9 L k now d n L':=by
 obtain ⟨S,T,h1,h2,h3,h4⟩:=h.ex;refine (x6b h1 h.envW (h.no0 h3) k hk now d hn hd1 hd2).mono ?_;rintro e W' ⟨n,L',rfl,hn,hm⟩;exact ⟨n,L',rfl,h.prog h1 h2 h3 h4 hn,hm⟩
theorem z8o(h:PairSp w0 W p rp en mn sd mx c L R)(k:ByteArray)(now d:Int)(hn:Lf.I64 now)(hd1:0<=d)(hd2:d<=4294967295) :
 Calls Tryz.prog 37 #[.pointer (some ⟨rp,0,none⟩),.string k,.int .i64 now,.int .u32 d] W fun e W'=>∃ n R',e=.returned (.int .i64 n)/\PairK w0 W W' p rp en mn sd mx c L R'/\D9 R k now d n R':=by
 obtain ⟨S,T,h1,h2,h3,h4⟩:=h.ex;refine (y8t h2 k now d hn hd1 hd2).mono ?_;rintro e W' ⟨n,R',rfl,hn,hm⟩;exact ⟨n,R',rfl,h.ref h1 h2 h3 h4 hn,hm⟩
theorem y8g(h:PairSp w0 W p rp en mn sd mx c L R)(q:Int):Calls Tryz.prog 38 #[.pointer (some ⟨p,0,none⟩),.int .i64 q] W fun e W'=>∃ r:Int,e=.returned (.int .i64 r)/\PairK w0 W W' p rp en mn sd mx c L R:=by
 obtain ⟨S,T,h1,h2,h3,h4⟩:=h.ex;refine (x9t h1 q).mono ?_;rintro e W' ⟨r,rfl,hn⟩;exact ⟨r,rfl,h.prog h1 h2 h3 h4 hn⟩
theorem y2v(h:PairSp w0 W p rp en mn sd mx c L R):Calls Tryz.prog 22 #[.pointer (some ⟨p,0,none⟩)] W fun e W'=>e=.returned (.tuple #[])/\PairK w0 W W' p rp en mn sd mx c [] R:=by
 obtain ⟨S,T,h1,h2,h3,h4⟩:=h.ex;refine (x6a h1 c).mono ?_;rintro e W' ⟨rfl,hn⟩;exact ⟨rfl,h.prog h1 h2 h3 h4 hn⟩
theorem x4l(h:PairSp w0 W p rp en mn sd mx c L R)(k:ByteArray)(hk:k.size<=281474976710656) :
 Calls Tryz.prog 16 #[.pointer (some ⟨p,0,none⟩),.string k] W fun e W'=>e=.returned (.tuple #[.agg #[.int .i64 (Fy (itl L) k).1,.int .i64 (Fy (itl L) k).2],.bool (Y4 L k).isSome])/\PairK w0 W W' p rp en mn sd mx c L R:=by
 obtain ⟨S,T,h1,h2,h3,h4⟩:=h.ex;refine (v2s h1 k hk).mono ?_;rintro e W' ⟨rfl,hn⟩;exact ⟨rfl,h.prog h1 h2 h3 h4 hn⟩
theorem x4j(h:PairSp w0 W p rp en mn sd mx c L R):Calls Tryz.prog 7 #[.pointer (some ⟨p,0,none⟩)] W fun e W'=>e=.returned (.int .i64 L.length)/\W'=W:=by
 obtain ⟨S,T,h1,_⟩:=h.ex;exact y4d h1
end
section
variable {en mn now d:Int} {L L':List Th} {R R':List Rt} {k f:ByteArray} {a b:Option Addr}
theorem Alike.tidy(h:Alike en mn L R)(k:ByteArray)(hk:Y6 (itl (if Yg (itl L) k then Yl L k else L))):Alike en mn (if Yg (itl L) k then Yl L k else L) (if Yg (itr R) k then Y0 R k [] else R):=by
 rw [<- h.empty k]
 cases he:Yg (itl L) k with
 | true =>
   rw [he] at hk;exact h.del k hk
 | false=>exact h
theorem Alike.same(h:Alike en mn L R){t:Th}{x:Rt}(ht:t∈L)(hx:x∈R)(e:t.key=x.key):t.toIt=x.toIt :=
 z1p h.keys h.perm (List.mem_map.2 ⟨t,ht,rfl⟩) (List.mem_map.2 ⟨x,hx,rfl⟩) e
theorem x9x(h:Alike en mn L R)(hno:Y4 L k=none):∀ x∈R,x.key≠k:=by
 have h1:=h.there k;rw [hno] at h1
 have h2:¬ 0<=atR R k:=fun e=>by
  rw [decide_eq_true e] at h1
  cases h1
 exact (Mc h2).2
theorem Cu(x:It):(Y8 now d x).isL=x.isL/\(Y8 now d x).E=x.E/\(Y8 now d x).key=x.key:=by
 unfold Y8 It.use
 split <;> exact ⟨rfl,rfl,rfl⟩
theorem Alike.touch{n m:Int}(h:Alike en mn L R)(hqs:(L.map Th.q).Nodup)(hm:M9 L k now d n L')(hr:D9 R k now d m R')(hk:Y6 (itl L')):n=m/\Alike en mn L' R':=by
 rcases hm with ⟨hno,rfl,rfl⟩|⟨t,ht,htk,rfl,rfl⟩
 ·rcases hr with ⟨_,rfl,rfl⟩|⟨i,x,hx,hxk,_⟩
  ·exact ⟨rfl,h⟩
  ·exact absurd hxk (x9x h hno x (lAc hx))
 ·rcases hr with ⟨hno,_⟩|⟨i,x,hx,hxk,rfl,rfl⟩
  ·exfalso;have h1:=h.there k;have h2:=Ql h.keys ht;rw [htk] at h2;rw [h2] at h1;have h3:atR R k=-1:=z6o hno;rw [h3] at h1;simp at h1
  ·have e:=h.same ht (lAc hx) (htk.trans hxk.symm);obtain ⟨f1,f2,f3⟩:=Cu (now:=now) (d:=d) t.toIt;have e1:t.uc=x.uc:=congrArg It.uc e;have e2:t.ua=x.ua:=congrArg It.ua e;refine ⟨by rw [e1,e2],h.rep hqs ht rfl hx (htk.trans hxk.symm).symm ?_ f3 ?_ hk⟩
   ·show Y8 now d t.toIt=Y8 now d x.toIt;rw [e]
   ·show FitE (Y8 now d t.toIt).isL _ _ (Y8 now d t.toIt).E;rw [f1,f2];exact h.fit t.toIt (List.mem_map.2 ⟨t,ht,rfl⟩)
theorem Alike.put{l:List En}(h:Alike en mn L R)(hl:l.length<=300)(hs:∀ e∈l,Pk.Ya e.2)(hm:z1k en mn L k l now L')(hr:x0z en mn R k l now R')(hk:Y6 (itl L'))(hq:(L'.map Th.q).Nodup)(hkn:∀ L1 t,L1=L++[t]->Y4 L k=none->t.key=k->Y6 (itl L1)):Alike en mn L' R':=by
 have hmm:=h.made k now;rcases hm with ⟨h0,rfl⟩|⟨h0,hk64,L1,t,t',ht,htk,hor,htq,hti,rfl⟩
 ·rcases hr with ⟨_,rfl⟩|⟨h1,_⟩
  ·exact h
  ·exact absurd (hmm.trans h1) h0
 ·rcases hr with ⟨h1,_⟩|⟨h1,b,R1,i,x,r,hmk,hx,hxk,rfl⟩
  ·exact absurd (hmm.symm.trans h0) h1
  ·have hA:Alike en mn L1 R1:=by
    rcases hor with ⟨htl,rfl⟩|⟨hno,hnow,hlt,rfl,htit⟩
    ·exact h.make (.inr ⟨h0,hk64,t,htl,htk,rfl,.inl ⟨htl,rfl⟩⟩) hmk h.keys
    ·exact h.make (.inr ⟨h0,hk64,t,ht,htk,rfl,.inr ⟨hno,hnow,hlt,rfl,htit⟩⟩) hmk (hkn _ t rfl hno htk)
   have hq1:(L1.map Th.q).Nodup:=by rw [x5h] at hq;exact hq
   have e:=hA.same ht (lAc hx) (htk.trans hxk.symm);obtain ⟨g,fi⟩:=De (Oq en 200 (by decide)) (Oq mn 64 (by decide)) l hs l.length (lAd _) hl;rw [List.take_length] at fi;refine hA.rep hq1 ht htq hx (htk.trans hxk.symm).symm ?_ (by have e3:=congrArg It.key hti;exact e3) ?_ hk
   ·rw [hti,e];rfl
   ·rw [show t'.isL=(Xa en mn l).1 from congrArg It.isL hti,show t'.E=(Xa en mn l).2 from congrArg It.E hti];exact fi
end
def y4s(W W':World):Prop:=∀ b t c,(t=Jn\/t=V0)->Blk W b t c->Blk W' b t c
section
variable {w0 W W':World} {p rp sd c c' i:Nat} {en mn mx:Int} {L L':List Th} {R R':List Rt} {S T:Nat->Prop} {x:Rt} {t:Th}
theorem z2t{E':List En}{b':Bool}(h:RefSp W rp en mn sd mx R T)(hx:R[i]?=some x)(hf:Far (fun k=>k=x.r) W W')(hr:RefC W' x.r E' (Z6 en 200) (Z6 mn 64) b'):RefNow W rp en mn sd mx T (R.set i { x with isL:=b',E:=E' }) W':=by
 obtain ⟨hi,hxe⟩:=lAb.1 hx;have hxm:=lAc hx;obtain ⟨rv,g,hl,hS⟩:=h;obtain ⟨a,cc,hxc⟩:=(g.set x hxm).cells
 have hno:∀ {k t:Nat} {c:Array Value},Blk W k t c->t≠v2w->k≠x.r:=fun hk ht e=>by
  rw [e] at hk;have e:=Option.some.inj (hk.symm.trans hxc)
  injection e with _ e2
  exact ht e2
 obtain ⟨q1,q2,q3,q4⟩:=On R i x hx
 have hcells:Yw (R.set i { x with isL:=b',E:=E' })=Yw R:=by
  rw [Mg R i _ hi];simp only;rw [Vf q1,Vf q2,Vf q3,Vf q4]
 have hmap:(R.set i { x with isL:=b',E:=E' }).map Rt.r=R.map Rt.r:=by
  rw [List.map_set];exact Vf (by rw [List.getElem?_map,hx];rfl)
 have hrow:OwnR W' 0 rv R:=g.row.keep fun k hk=>by
  obtain ⟨c2,hc2⟩:=g.row.blk hk;exact hf.block k hc2.lt (hno hc2 (by decide))
 refine ⟨T,⟨rv,⟨hf.blk g.blk (hno g.blk (by decide)),?_,fun y hy=>?_,by rw [hmap];exact g.rs⟩,by rw [List.length_set];exact hl,fun k=>(hS k).trans ?_⟩,fun k hk=>.inl hk,hf.mono fun k e=>(hS k).2 (.inr (.inr ⟨x,hxm,e⟩))⟩
 ·unfold OwnR;rw [hcells,List.length_set];exact hrow
 ·obtain ⟨j,hj,he⟩:=List.mem_iff_getElem.1 hy;rw [List.getElem_set] at he
  by_cases e:i=j
  ·rw [if_pos e] at he;subst he;exact hr
  ·rw [if_neg e] at he;subst he;have hj2:j<R.length:=by simpa using hj
   refine (g.set _ (List.getElem_mem hj2)).far hf (fun e2=>?_) fun k cur hk=>hno hk (by decide);exact e ((List.getElem_inj (i:=i) (j:=j) (h₀:=by simpa using hi) (h₁:=by simpa using hj2) g.rs).1 (by simp [hxe,e2]))
 ·unfold z8x;have h1:(∃ z∈R,k=z.r)↔k∈R.map Rt.r:=by rw [List.mem_map];exact ⟨fun ⟨z,h1,h2⟩=>⟨z,h1,h2.symm⟩,fun ⟨z,h1,h2⟩=>⟨z,h1,h2.symm⟩⟩
  have h2:(∃ y∈R.set i { x with isL:=b',E:=E' },k=y.r)↔k∈(R.set i { x with isL:=b',E:=E' }).map Rt.r:=by rw [List.mem_map];exact ⟨fun ⟨z,h1,h2⟩=>⟨z,h1,h2.symm⟩,fun ⟨z,h1,h2⟩=>⟨z,h1,h2.symm⟩⟩
  rw [h1,h2,hmap]
theorem PairSp.good(h:PairSp w0 W p rp en mn sd mx c L R)(ht:t∈L):Good (Z6 en 200) (Z6 mn 64) c t.E:=by
 obtain ⟨S,T,h1,_⟩:=h.ex;exact (h1.th ht).2.good
theorem x4i(h:PairSp w0 W p rp en mn sd mx c L R)(ht:t∈L)(hc:c<400)(m:ByteArray)(sc lv:Int)(hs:Pk.Ya sc) :
 Calls Tryz.prog 24 #[.pointer (some ⟨t.s,0,none⟩),.string m,.int .i64 sc,.int .i64 lv] W fun e W'=>e=.returned (.tuple #[.bool (z3m t.E m lv),.int .i64 (z3n m lv)])/\∃ S1,PairK w0 W W' p rp en mn sd mx (c+1) (Xu L { t with isL:=Ma (Z6 en 200) (Z6 mn 64) t.isL t.E m lv,E:=Mb t.E m sc lv,S:=S1 }) R:=by
 have hg:=h.good ht;obtain ⟨S,T,h1,h2,h3,h4⟩:=h.ex;refine (y6c (h1.th ht).2 (by have:=hg.len;omega) (by omega) m sc lv hs).mono ?_;rintro e W' ⟨rfl,hn⟩;obtain ⟨S1,hn1⟩:=h1.setNow ht (Nat.le_succ c) (by omega) hn;exact ⟨rfl,S1,h.prog h1 h2 h3 h4 hn1⟩
theorem y8j(h:PairSp w0 W p rp en mn sd mx c L R)(hx:R[i]?=some x)(hc:c<400)(hg:Good (Z6 en 200) (Z6 mn 64) c x.E)(hfit:FitE x.isL (Z6 en 200) (Z6 mn 64) x.E)(m:ByteArray)(hm:m.size<=281474976710656)(sc lv:Int) :
 Calls Tryz.prog 25 #[.pointer (some ⟨x.r,0,none⟩),.string m,.int .i64 sc,.int .i64 lv] W fun e W'=>e=.returned (.tuple #[.bool (z3m x.E m lv),.int .i64 (z3n m lv)])/\PairK w0 W W' p rp en mn sd mx c L (R.set i { x with isL:=Ma (Z6 en 200) (Z6 mn 64) x.isL x.E m lv,E:=Mb x.E m sc lv }):=by
 obtain ⟨S,T,h1,h2,h3,h4⟩:=h.ex;obtain ⟨_,_,_,_,hsR,_,_⟩:=h2.keys;refine (y5y (hsR x (lAc hx)) hfit hg.srt hg.dist (fun e he=>(hg.each e he).1) (by have:=hg.len;omega) m hm sc lv).mono ?_;rintro e W' ⟨rfl,hr,hf⟩;exact ⟨rfl,h.ref h1 h2 h3 h4 (z2t h2 hx hf hr)⟩
theorem z8m(h:PairSp w0 W p rp en mn sd mx c L R)(ht:t∈L)(hc:c<=10000)(m:ByteArray)(hm:m.size<=281474976710656) :
 Calls Tryz.prog 31 #[.pointer (some ⟨t.s,0,none⟩),.string m] W fun e W'=>e=.returned (.bool (Pp t.E m))/\(∃ S1,PairK w0 W W' p rp en mn sd mx c (Xu L { t with isL:=t.isL,E:=rmE t.E m,S:=S1 }) R)/\y4s W W':=by
 obtain ⟨S,T,h1,h2,h3,h4⟩:=h.ex;refine (y3v (h1.th ht).2 m hm).mono ?_;rintro e W' ⟨rfl,hn⟩;obtain ⟨S1,hn1⟩:=h1.setNow ht (lAd c) hc hn;refine ⟨rfl,⟨S1,h.prog h1 h2 h3 h4 hn1⟩,fun b t c ht hb=>?_⟩;obtain ⟨_,_,_,hf⟩:=hn1;refine hf.blk hb (h1.no hb ?_);rcases ht with rfl|rfl <;> decide
theorem z5j(h:PairSp w0 W p rp en mn sd mx c L R)(hx:R[i]?=some x)(hc:c<400)(hg:Good (Z6 en 200) (Z6 mn 64) c x.E)(m:ByteArray) :
 Calls Tryz.prog 32 #[.pointer (some ⟨x.r,0,none⟩),.string m] W fun e W'=>e=.returned (.bool (Pp x.E m))/\PairK w0 W W' p rp en mn sd mx c L (R.set i { x with isL:=x.isL,E:=rmE x.E m })/\y4s W W':=by
 obtain ⟨S,T,h1,h2,h3,h4⟩:=h.ex;obtain ⟨_,_,_,_,hsR,_,_⟩:=h2.keys;refine (y3j (hsR x (lAc hx)) hg.dist (by have:=hg.len;omega) m).mono ?_;rintro e W' ⟨rfl,hr,hf⟩;have hxb:=hsR x (lAc hx);obtain ⟨a,cc,hxc⟩:=hxb.cells;refine ⟨rfl,h.ref h1 h2 h3 h4 (z2t h2 hx hf hr),fun b t c ht hb=>hf.blk hb fun e=>?_⟩;subst e;have e:=Option.some.inj (hb.symm.trans hxc)
 injection e with _ e2
 rcases ht with rfl|rfl
 ·exact absurd e2 (by decide)
 ·exact absurd e2 (by decide)
theorem Alike.add(h:Alike en mn L R)(hqs:(L.map Th.q).Nodup)(ht:t∈L)(hx:R[i]?=some x)(hxt:x.key=t.key)(hd:Vk t.E)(m:ByteArray)(sc lv:Int)(S1:Nat->Prop)(hk:Y6 (itl (Xu L { t with isL:=Ma (Z6 en 200) (Z6 mn 64) t.isL t.E m lv,E:=Mb t.E m sc lv,S:=S1 }))) :
 Alike en mn (Xu L { t with isL:=Ma (Z6 en 200) (Z6 mn 64) t.isL t.E m lv,E:=Mb t.E m sc lv,S:=S1 }) (R.set i { x with isL:=Ma (Z6 en 200) (Z6 mn 64) x.isL x.E m lv,E:=Mb x.E m sc lv }):=by
 have e:=h.same ht (lAc hx) hxt.symm;have e1:t.isL=x.isL:=congrArg It.isL e;have e2:t.E=x.E:=congrArg It.E e;have e3:t.key=x.key:=congrArg It.key e;have e4:t.uc=x.uc:=congrArg It.uc e;have e5:t.ua=x.ua:=congrArg It.ua e;refine h.rep hqs ht rfl hx hxt ?_ rfl (y5c (h.fit t.toIt (List.mem_map.2 ⟨t,ht,rfl⟩)) hd m sc lv) hk;rw [e1,e2];simp only [e3,e4,e5]
theorem Alike.rem(h:Alike en mn L R)(hqs:(L.map Th.q).Nodup)(ht:t∈L)(hx:R[i]?=some x)(hxt:x.key=t.key)(m:ByteArray)(S1:Nat->Prop)(hk:Y6 (itl (Xu L { t with isL:=t.isL,E:=rmE t.E m,S:=S1 }))) :
 Alike en mn (Xu L { t with isL:=t.isL,E:=rmE t.E m,S:=S1 }) (R.set i { x with isL:=x.isL,E:=rmE x.E m }):=by
 have e:=h.same ht (lAc hx) hxt.symm;have e1:t.isL=x.isL:=congrArg It.isL e;have e2:t.E=x.E:=congrArg It.E e;have e3:t.key=x.key:=congrArg It.key e;have e4:t.uc=x.uc:=congrArg It.uc e;have e5:t.ua=x.ua:=congrArg It.ua e;refine h.rep hqs ht rfl hx hxt ?_ rfl ((h.fit t.toIt (List.mem_map.2 ⟨t,ht,rfl⟩)).sub ?_ fun y hy=>?_) hk
 ·rw [e1,e2];simp only [e3,e4,e5]
 ·unfold rmE;exact List.length_filter_le _ _
 ·unfold rmE at hy;exact (List.mem_filter.1 hy).1
end
def OffI(I I':List It)(k t:ByteArray):Prop:=∀ x:It,x.key≠k->x.key≠t->(x∈I'↔x∈I)
section
variable {en mn now d n:Int} {I J K:List It} {L L':List Th} {k t f o:ByteArray} {a:Option Addr} {l:List En}
theorem OffI.refl:OffI I I k t:=fun _ _ _=>Iff.rfl
theorem OffI.trans(h:OffI I J k t)(g:OffI J K k t):OffI I K k t:=fun x h1 h2=>(g x h1 h2).trans (h x h1 h2)
theorem y5p:OffI I (Vx I k) k t:=fun x h1 _=>by
 rw [Fa];exact ⟨fun h=>h.1,fun h=>⟨h,h1⟩⟩
theorem x4b:OffI I (Vx I t) k t:=fun x _ h2=>by
 rw [Fa];exact ⟨fun h=>h.1,fun h=>⟨h,h2⟩⟩
theorem Au{y:It}(hy:y.key=k\/y.key=t):OffI I (I++[y]) k t:=fun x h1 h2=>by
 rw [List.mem_append,lAg]
 constructor
 ·rintro (h|rfl)
  ·exact h
  ·rcases hy with h|h
   ·exact absurd h h1
   ·exact absurd h h2
 ·exact .inl
theorem x9a{g:It->It}(hg:∀ y∈I,y.key=k->(g y).key=k):OffI I (Fp I k g) k t:=fun x h1 _=>by
 unfold Fp;rw [List.mem_map]
 constructor
 ·rintro ⟨y,hy,rfl⟩
  by_cases e:y.key=k
  ·rw [if_pos e] at h1;exact absurd (hg y hy e) h1
  ·rw [if_neg e];exact hy
 ·intro hx;exact ⟨x,hx,by rw [if_neg h1]⟩
theorem y5q(hk:Y6 (itl L)):OffI (itl L) (itl (Yl L k)) k t:=by rw [Oa hk];exact y5p
theorem Fe{u u':Th}(hk:Y6 (itl L))(hqs:(L.map Th.q).Nodup)(hu:u∈L)(hq:u'.q=u.q)(huk:u.key=k)(hkey:u'.key=u.key):OffI (itl L) (itl (Xu L u')) k t:=by
 rw [z4q hk hqs hu hq,huk];exact x9a fun y _ _=>hkey.trans huk
theorem z8d(hm:Og L k now a L'):OffI (itl L) (itl L') k t:=by
 rcases hm with ⟨_,_,rfl⟩|⟨_,_,u,_,huk,_,⟨_,rfl⟩|⟨_,_,_,rfl,_⟩⟩
 ·exact .refl
 ·exact .refl
 ·have e:itl (L++[u])=itl L++[u.toIt]:=by unfold itl;simp
  rw [e];exact Au (.inl huk)
theorem x8z(hk:Y6 (itl L))(hm:Ki L f k L'):OffI (itl L) (itl L') f k:=by
 rcases hm with ⟨_,rfl⟩|⟨_,_,rfl⟩|⟨_,_,_,u,hu,huk,rfl⟩
 ·exact .refl
 ·exact .refl
 ·have e1:=Oa hk f;have hk1:Y6 (itl (Yl L f)):=by rw [e1];exact Ai hk _
  have e2:=Oa hk1 k
  have e:itl (Yl (Yl L f) k++[u.named k])=Vx (Vx (itl L) f) k++[u.toIt.named k]:=by
   rw [<- e1,<- e2];unfold itl;simp [Th.named]
  rw [e];exact (y5p.trans x4b).trans (Au (.inr rfl))
theorem y8b(hk:Y6 (itl L))(hqs:(L.map Th.q).Nodup)(hm:M9 L k now d n L'):OffI (itl L) (itl L') k t:=by
 rcases hm with ⟨_,_,rfl⟩|⟨u,hu,huk,_,rfl⟩
 ·exact .refl
 ·exact Fe hk hqs hu rfl huk (Cu u.toIt).2.2
theorem x8y(hk:Y6 (itl L))(hk2:∀ L1 t1,L1=L++[t1]->Y4 L k=none->t1.key=k->Y6 (itl L1))(hm:z1k en mn L k l now L')(hqs:(L'.map Th.q).Nodup):OffI (itl L) (itl L') k t:=by
 rcases hm with ⟨_,rfl⟩|⟨_,_,L1,u,u',hu,huk,hor,hq,hti,rfl⟩
 ·exact .refl
 ·have hq1:(L1.map Th.q).Nodup:=by rw [x5h] at hqs;exact hqs
  have hkey:u'.key=u.key:=by have e3:=congrArg It.key hti;exact e3
  rcases hor with ⟨_,rfl⟩|⟨hno,_,_,rfl,_⟩
  ·exact Fe hk hq1 hu hq huk hkey
  ·have e:itl (L++[u])=itl L++[u.toIt]:=by unfold itl;simp
   have h1:OffI (itl L) (itl (L++[u])) k t:=by rw [e];exact Au (.inl huk)
   exact h1.trans (Fe (hk2 _ u rfl hno huk) hq1 hu hq huk hkey)
theorem Av(hk:Y6 (itl L)):OffI (itl L) (itl (if Yg (itl L) k then Yl L k else L)) k t:=by
 cases Yg (itl L) k with
 | true=>exact y5q hk
 | false=>exact .refl
end
end Go.Proofs.YtcklcmafohlflaaGreatDoor

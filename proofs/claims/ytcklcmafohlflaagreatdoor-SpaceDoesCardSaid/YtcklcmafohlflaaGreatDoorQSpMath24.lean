/- Texts of one kind in one: SpMath, SpSmall, SpMem, SpRow. -/
import Derived.Test.YtcklcmafohlflaaGreatDoorQZAdds22
import Derived.Test.YtcklcmafohlflaaGreatDoorQDtSet10
import Derived.Test.YtcklcmafohlflaaGreatDoorQLfBase23
set_option maxRecDepth 200000
set_option maxHeartbeats 8000000
namespace Go.Proofs.YtcklcmafohlflaaGreatDoor
open Zc (Ent Ext KeepC Ym Z9 Zg Xg Zx Zb Zv Yo Y5 Ze Zz Z4 Zd)
open Go.RowKit Go.Shelf Sk
structure It where
 key:ByteArray
 uc:Int
 ua:Int
 isL:Bool
 E:List En
structure Th extends It where
 q:Nat
 s:Nat
 S:Nat->Prop
def It.use(x:It)(c a:Int):It:={ x with uc:=c,ua:=a }
def It.named(x:It)(k:ByteArray):It:={ x with key:=k }
def It.with(x:It)(b:Bool)(E:List En):It:={ x with isL:=b,E:=E }
def Xy(I:List It)(k:ByteArray):Option It:=I.find? fun x=>decide (x.key=k)
def Vx(I:List It)(k:ByteArray):List It:=I.filter fun x=>decide (x.key≠k)
def Fp(I:List It)(k:ByteArray)(f:It->It):List It:=I.map fun x=>if x.key=k then f x else x
def Y6(I:List It):Prop:=(I.map It.key).Nodup
theorem Qc{I:List It}{k:ByteArray}{x:It}(h:Xy I k=some x):x∈I/\x.key=k:=by
 unfold Xy at h;exact ⟨List.mem_of_find?_eq_some h,by simpa using List.find?_some h⟩
theorem Pd{I:List It}{k:ByteArray}(h:Xy I k=none):∀ x∈I,x.key≠k:=by
 unfold Xy at h;rw [List.find?_eq_none] at h;exact fun x hx e=>h x hx (by simpa using e)
theorem z7r{I:List It}(h:Y6 I){x y:It}(hx:x∈I)(hy:y∈I)(e:x.key=y.key):x=y:=by
 unfold Y6 at h
 induction I with
 | nil=>cases hx
 | cons a r ih =>
   rw [List.map_cons,List.nodup_cons] at h;rcases List.mem_cons.1 hx with h1|h1 <;> rcases List.mem_cons.1 hy with h2|h2
   ·rw [h1,h2]
   ·exact absurd (List.mem_map.2 ⟨y,h2,by rw [<- e,h1]⟩) h.1
   ·exact absurd (List.mem_map.2 ⟨x,h1,by rw [e,h2]⟩) h.1
   ·exact ih h.2 h1 h2
theorem Bd{I:List It}(h:Y6 I){x:It}(hx:x∈I):Xy I x.key=some x:=by
 cases hf:Xy I x.key with
 | none=>exact absurd rfl (Pd hf x hx)
 | some y =>
   obtain ⟨h1,h2⟩:=Qc hf;rw [z7r h h1 hx h2]
theorem Df{I J:List It}(hI:Y6 I)(hp:I.Perm J)(k:ByteArray):Xy I k=Xy J k:=by
 have hJ:Y6 J:=(hp.map It.key).nodup hI
 cases h:Xy I k with
 | none =>
   cases h2:Xy J k with
   | none=>rfl
   | some y=>exact absurd (Qc h2).2 (Pd h y (hp.mem_iff.2 (Qc h2).1))
 | some x =>
   obtain ⟨h1,rfl⟩:=Qc h;exact (Bd hJ (hp.mem_iff.1 h1)).symm
theorem Dx{I J:List It}(hp:I.Perm J)(k:ByteArray):(Vx I k).Perm (Vx J k):=hp.filter _
theorem y9l{I J:List It}(hp:I.Perm J)(k:ByteArray)(f:It->It):(Fp I k f).Perm (Fp J k f):=hp.map _
theorem Dw{I:List It}{k:ByteArray}(h:Xy I k=none):Vx I k=I:=by
 unfold Vx;rw [List.filter_eq_self];exact fun x hx=>by simpa using Pd h x hx
theorem Fa{I:List It}{k:ByteArray}{x:It}:x∈Vx I k↔x∈I/\x.key≠k:=by
 unfold Vx;rw [List.mem_filter];simp
theorem Ai{I:List It}(h:Y6 I)(k:ByteArray):Y6 (Vx I k):=by
 unfold Y6 Vx;exact (List.filter_sublist.map _).nodup h
theorem z8g{I:List It}(h:Y6 I)(k:ByteArray):(Vx I k).length=if (Xy I k).isSome then I.length-1 else I.length:=by
 cases hf:Xy I k with
 | none=>rw [Dw hf];rfl
 | some x =>
   obtain ⟨hx,rfl⟩:=Qc hf;simp only [Option.isSome_some,if_true];clear hf;unfold Y6 at h
   induction I with
   | nil=>cases hx
   | cons a r ih =>
     rw [List.map_cons,List.nodup_cons] at h
     by_cases e:a.key=x.key
     ·have h2:Vx (a :: r) x.key=r:=by
       unfold Vx;rw [List.filter_cons_of_neg (by simpa using e),List.filter_eq_self]
       exact fun y hy=>by
        have:y.key≠a.key:=fun e2=>h.1 (List.mem_map.2 ⟨y,hy,e2⟩)
        rw [e] at this
        simpa using this
      rw [h2];rfl
     ·have hx2:x∈r:=by
       rcases List.mem_cons.1 hx with rfl|hx
       ·exact absurd rfl e
       ·exact hx
      have h2:Vx (a :: r) x.key=a :: Vx r x.key:=by
       unfold Vx;rw [List.filter_cons_of_pos (by simpa using e)]
      rw [h2,List.length_cons,ih h.2 hx2,List.length_cons]
      have:0<r.length:=List.length_pos_of_mem hx2
      omega
theorem x2y{I:List It}(h:Y6 I)(k:ByteArray){f:It->It}(hf:∀ x,(f x).key=x.key):Y6 (Fp I k f):=by
 unfold Y6 Fp;rw [List.map_map]
 have:(It.key ∘ fun x=>if x.key=k then f x else x)=It.key:=by
  funext x
  simp only [Function.comp]
  split
  ·exact hf x
  ·rfl
 rw [this];exact h
theorem y7p{I:List It}(h:Y6 I){x:It}(hx:Xy I x.key=none):Y6 (I++[x]):=by
 unfold Y6 at *;rw [List.map_append,List.nodup_append];refine ⟨h,by simp,fun a ha b hb=>?_⟩;obtain ⟨y,hy,rfl⟩:=List.mem_map.1 ha;obtain rfl:b=x.key:=by simpa using hb
 exact Pd hx y hy
end Go.Proofs.YtcklcmafohlflaaGreatDoor
namespace Go.Proofs.YtcklcmafohlflaaGreatDoor.Dc
open Zc
def Sh.low(h:Sh):Prop:=h.A<=1024/\h.B<=1024
theorem y9s(n:Int):Zu n=4\/((Zu n / 2:Nat):Int)<n:=by
 have key:∀ i,i<=14->(i=0\/((Kc (i-1):Nat):Int)<n)->(fit n (Vt.drop i)=4\/((fit n (Vt.drop i) / 2:Nat):Int)<n):=by
  intro i hi;obtain ⟨d,hd⟩:∃ d,d=14-i:=⟨_,rfl⟩
  induction d generalizing i with
  | zero =>
    obtain rfl:i=14:=by omega
    intro h;rw [x2f]
    have:Kc 13=32768:=by decide +kernel
    rcases h with h|h
    ·cases h
    ·rw [this] at h;exact .inr h
  | succ d ih =>
    intro h;obtain ⟨hx,h1,h2,h3⟩:=Jg ⟨i,by omega⟩;simp only at hx h1 h2 h3
    by_cases hn:n<=((Kc i:Nat):Int)
    ·rw [z7h n i _ hx hn];rcases h with rfl|h
     ·exact .inl (by decide +kernel)
     ·by_cases h0:i=0
      ·subst h0;exact .inl (by decide +kernel)
      ·have h4:=(Jg ⟨i-1,by omega⟩).2.2.2;simp only at h4;rw [show i-1+1=i by omega] at h4
       right
       rw [h4,Nat.mul_div_cancel_left _ (by decide)];exact h
    ·rw [x2g n i _ hx hn];exact ih (i+1) (by omega) (by omega) (.inr (by rw [Nat.add_sub_cancel];omega))
 exact key 0 (by omega) (.inl rfl)
theorem z9m(n:Nat)(h:n<=1000):Zu (n:Int)<=1024:=by
 have h2:isS (Zu (n:Int):Int)=true:=Pq _;obtain ⟨x,hx,he⟩:=(z4p _).1 h2;have e:x=Zu (n:Int):=by omega
 have hall:∀ x∈Vt,x<2002->x<=1024:=by decide +kernel
 rw [e] at hx;refine hall _ hx ?_;rcases y9s (n:Int) with h1|h1 <;> omega
theorem J1{h:Sh}(hs:h.low):h.step1.low:=by
 unfold Sh.step1
 split
 ·exact hs
 ·split
  ·exact ⟨hs.2,by show 0<=1024;omega⟩
  ·exact ⟨hs.1,hs.2⟩
theorem z2g{h:Sh}(hs:h.low):∀ k,(Sh.steps k h).low
 | 0=>hs
 | k+1=>J1 (z2g hs k)
theorem z9s(h:Sh):h.step1.n=h.n:=by
 unfold Sh.step1
 split
 ·rfl
 ·split <;> rfl
theorem x8o{h:Sh}(hs:h.low)(hn:h.n<=500)(is:Bool):(h.set is).low:=by
 cases is with
 | true=>exact J1 hs
 | false =>
   have h1:=J1 hs;have h2:=z9s h;show (h.step1.grown).low;generalize h.step1=g at *;unfold Sh.grown
   split
   ·exact ⟨h1.1,z9m (2*g.n) (by omega)⟩
   ·exact h1
theorem x8n{h:Sh}(hs:h.low)(hn:h.n<=500)(is:Bool):(h.del is).low:=by
 cases is with
 | true =>
   have h1:=J1 hs;have h2:=z9s h;show (h.step1.fewer.shrunk).low;generalize h.step1=g at *;unfold Sh.shrunk
   split
   ·exact ⟨h1.1,z9m (g.n-1) (by omega)⟩
   ·exact h1
 | false=>exact J1 hs
end Go.Proofs.YtcklcmafohlflaaGreatDoor.Dc
namespace Go.Proofs.YtcklcmafohlflaaGreatDoor
open Zc (Ent Ext KeepC Ym Z9 Zg Xg Zx Zb Zv Yo Y5 Ze Zz Z4 Zd)
open Go.RowKit Go.Shelf Sk
attribute [local go_sem] Oper.semAt_some
def v4d:List TypeId:=[114,151,219,263,265,270,300,301]
def v1f:List TypeId:=[131,195,194]
abbrev Gm:TypeId:=67
abbrev Uy:TypeId:=85
abbrev X3:TypeId:=79
def spT:List TypeId:=Gm :: Uy :: X3 :: (v1f++v4d)
theorem P5{W:World}{s c:Nat}{S:Nat->Prop}{isL:Bool}{le lm:Int}{E:List En}(h:SetIs W s S isL le lm c E){j t:Nat}{cc:Array Value}(hj:Blk W j t cc)(ht:t ∉ v4d):¬ S j:=fun hs=>by
 obtain ⟨sd,⟨_,b,h,hS⟩|⟨_,l,p,q,D,L,m,n,h,hS⟩⟩:=h
 ·rcases (hS j).1 hs with rfl|rfl
  ·exact ht (by rw [hj.ty h.blk];decide)
  ·exact ht (by rw [hj.ty h.pk.blk];decide)
 ·rcases (hS j).1 hs with rfl|ho
  ·exact ht (by rw [hj.ty h.blk];decide)
  ·exact h.li.own_ty ho hj ⟨fun e=>ht (by rw [e];decide),fun e=>ht (by rw [e];decide),fun e=>ht (by rw [e];decide),fun e=>ht (by rw [e];decide),fun e=>ht (by rw [e];decide),fun e=>ht (by rw [e];decide)⟩
theorem Pm{W:World}{d sd:Nat}{SD:Nat->Prop}{m:ByteArray->Option Addr}{sh:Dc.Sh}(h:Dc.Dt.Is W d SD sd m sh){j t:Nat}{cc:Array Value}(hj:Blk W j t cc)(ht:t ∉ v1f):¬ SD j:=fun hs=>by
 obtain ⟨t',c',ht',hb⟩:=h.cells j hs
 have:=hj.ty (show Blk W j t' c' from hb)
 subst this;rcases ht' with rfl|rfl|rfl <;> exact ht (by decide)
def Yv(t:Th):Value:=.pointer (some ⟨t.q,0,none⟩)
def Y4(L:List Th)(k:ByteArray):Option Addr:=(L.find? fun t=>decide (t.key=k)).map fun t=>⟨t.q,0,none⟩
def itl(L:List Th):List It:=L.map Th.toIt
def thC(s:Nat)(x:It):Array Value:=#[.pointer (some ⟨s,0,none⟩),.string x.key,.int .i64 x.uc,.int .i64 x.ua]
def spC(en mn:Int)(sd d:Nat)(rv:Value):Array Value:=#[.int .i64 en,.int .i64 mn,.int .u32 sd,.pointer (some ⟨d,0,none⟩),rv]
structure SpIn (W:World) (p d:Nat) (SD:Nat->Prop) (rv:Value) (en mn:Int) (sd:Nat) (m:ByteArray->Option Addr) (sh:Dc.Sh) (c:Nat) (L:List Th):Prop where
 blk:Blk W p Gm (spC en mn sd d rv)
 row:W.ownsRow 0 X3 1 rv L.length (L.map Yv)
 dict:Dc.Dt.Is W d SD sd m sh
 th:∀ t∈L,Blk W t.q Uy (thC t.s t.toIt)
 set:∀ t∈L,SetIs W t.s t.S t.isL (Z6 en 200) (Z6 mn 64) c t.E
 keys:Y6 (itl L)
 qs:(L.map Th.q).Nodup
 apart:L.Pairwise fun t u=>∀ k,t.S k->¬ u.S k
 ksz:∀ t∈L,t.key.size<=64
 use:∀ t∈L,Lf.Kg (t.uc,t.ua)
 sd:sd<4294967296
def spS(p:Nat)(SD:Nat->Prop)(rv:Value)(L:List Th)(k:Nat):Prop:=k=p\/rv.ownBlock=some k\/SD k\/∃ t∈L,k=t.q\/t.S k
section
variable {W W' w w':World} {p d sd c:Nat} {SD:Nat->Prop} {rv:Value} {en mn:Int} {m:ByteArray->Option Addr} {sh:Dc.Sh} {L:List Th}
theorem X5(h:W.ownsRow 0 X3 1 rv L.length (L.map Yv)){k:Nat}(hk:rv.ownBlock=some k):∃ c,Blk W k X3 c:=by
 rcases h.2 with ⟨rfl,_⟩|⟨g,cap,cur,rfl,_,hg,_⟩
 ·simp [Value.ownBlock] at hk
 ·simp [Value.ownBlock] at hk;subst hk;exact ⟨cur,hg⟩
theorem Pw{n:Nat}{xs:List Value}(h:W.ownsRow 0 X3 1 rv n xs)(hb:∀ k,rv.ownBlock=some k->W'.heap[k]?=W.heap[k]?):W'.ownsRow 0 X3 1 rv n xs:=by
 refine ⟨h.1,?_⟩;rcases h.2 with hn|⟨g,cap,cur,rfl,hb',hg,rest⟩
 ·exact .inl hn
 ·exact .inr ⟨g,cap,cur,rfl,hb',(hb g rfl).trans hg,rest⟩
theorem SpIn.lt(h:SpIn W p d SD rv en mn sd m sh c L){k:Nat}(hk:spS p SD rv L k):k<W.heap.size:=by
 rcases hk with rfl|hk|hk|⟨t,ht,rfl|hk⟩
 ·exact h.blk.lt
 ·obtain ⟨cc,hb⟩:=X5 h.row hk;exact hb.lt
 ·exact h.dict.lt k hk
 ·exact (h.th t ht).lt
 ·exact (h.set t ht).lt hk
theorem SpIn.no(h:SpIn W p d SD rv en mn sd m sh c L){j t:Nat}{cc:Array Value}(hj:Blk W j t cc)(ht:t ∉ spT):¬ spS p SD rv L j:=fun hs=>by
 rcases hs with rfl|hk|hk|⟨u,hu,rfl|hk⟩
 ·exact ht (by rw [hj.ty h.blk];decide)
 ·obtain ⟨cc,hb⟩:=X5 h.row hk;exact ht (by rw [hj.ty hb];decide)
 ·exact Pm h.dict hj (fun e=>ht (by unfold spT;simp [e])) hk
 ·exact ht (by rw [hj.ty (h.th u hu)];decide)
 ·exact P5 (h.set u hu) hj (fun e=>ht (by unfold spT;simp [e])) hk
theorem SpIn.far{S1:Nat->Prop}(h:SpIn W p d SD rv en mn sd m sh c L)(hf:Far S1 W W')(hd:∀ k,spS p SD rv L k->¬ S1 k):SpIn W' p d SD rv en mn sd m sh c L :=
 ⟨hf.blk h.blk (hd p (.inl rfl)),Pw h.row fun k hk=>by
   obtain ⟨cc,hb⟩:=X5 h.row hk;exact hf.block k hb.lt (hd k (.inr (.inl hk))),
   h.dict.far (y4m hf) (fun k hk=>hd k (.inr (.inr (.inl hk)))),fun t ht=>hf.blk (h.th t ht) (hd _ (.inr (.inr (.inr ⟨t,ht,.inl rfl⟩)))),
   fun t ht=>(h.set t ht).far hf fun k hk=>hd k (.inr (.inr (.inr ⟨t,ht,.inr hk⟩))),h.keys,h.qs,h.apart,h.ksz,h.use,h.sd⟩
theorem SpIn.later(h:SpIn W p d SD rv en mn sd m sh c L)(hb:Bl W W'):SpIn W' p d SD rv en mn sd m sh c L:=h.far (S1:=fun _=>False) (Far.of_below hb) fun _ _ h=>h
theorem SpIn.more(h:SpIn W p d SD rv en mn sd m sh c L){c':Nat}(h1:c<=c')(h2:c'<=10000):SpIn W p d SD rv en mn sd m sh c' L :=
 ⟨h.blk,h.row,h.dict,h.th,fun t ht=>(h.set t ht).more h1 h2,h.keys,h.qs,h.apart,h.ksz,h.use,h.sd⟩
theorem SpIn.dicted(h:SpIn W p d SD rv en mn sd m sh c L){m':ByteArray->Option Addr}{sh':Dc.Sh}(hd:Dc.Dt.IsNow SD W d sd m' sh' W') :
 SpIn W' p d (Dc.V3 Dc.Dt.tyP SD W W') rv en mn sd m' sh' c L/\Far SD W W':=by
 have hf:=y2r hd.2;refine ⟨⟨hf.blk h.blk (Pm h.dict h.blk (by decide)),Pw h.row fun k hk=>?_,hd.1,fun t ht=>hf.blk (h.th t ht) (Pm h.dict (h.th t ht) (by decide)),fun t ht=>(h.set t ht).far hf fun k hk hs=>?_,h.keys,h.qs,h.apart,h.ksz,h.use,h.sd⟩,hf⟩
 ·obtain ⟨cc,hb⟩:=X5 h.row hk;exact hf.block k hb.lt (Pm h.dict hb (by decide))
 ·obtain ⟨t',c',ht',hb⟩:=h.dict.cells k hs;exact P5 (h.set t ht) (show Blk W k t' c' from hb) (by rcases ht' with rfl|rfl|rfl <;> decide) hk
end
theorem M2{W:World}{rv:Value}{L:List Th}(h:W.ownsRow 0 X3 1 rv L.length (L.map Yv)):∃ A cap,rv=.slice A L.length cap/\L.length<=cap/\cap<=maxLen /\
 (∀ i t,L[i]?=some t->∃ g,A=some ⟨g,0,none⟩/\W.cell? ⟨g,i,none⟩=some (Yv t)/\W.frozen? ⟨g,i,none⟩=false):=by
 have hO:=h;rcases h.2 with ⟨rfl,h0⟩|⟨g,cap,cur,rfl,_,hg,hl,hm,_⟩
 ·have hr:L=[]:=List.eq_nil_of_length_eq_zero h0;subst hr;exact ⟨none,0,rfl,lAd _,Nat.zero_le _,fun i x hx=>by simp at hx⟩
 ·refine ⟨some ⟨g,0,none⟩,cap,rfl,hl,hm,fun i t ht=>⟨g,rfl,?_,World.ownsRow.frozenAt (w:=W) (base:=0) (e:=X3) (size:=1) (g:=g) (n:=L.length) (cap:=cap) (xs:=L.map Yv) hO i⟩⟩;obtain ⟨hi,_⟩:=lAb.1 ht;rw [World.ownsRow.cellAt (w:=W) (base:=0) (e:=X3) (size:=1) (g:=g) (n:=L.length) (cap:=cap) (xs:=L.map Yv) hO i (by omega),List.getElem?_map,ht];rfl
theorem z8r(s q b:Nat)(x:It)(k:ByteArray)(w:World)(hq:Blk w q Uy (thC s x))(hb:Blk w b 9 #[.string k]) :
 Calls Tryz.prog 129 #[.pointer (some ⟨q,0,none⟩),.pointer (some ⟨b,0,none⟩)] w fun e w'=>e=.returned (.bool (decide (x.key=k)))/\∃ n,w'=w.drewN n:=by
 have c1:=hq.cell 1;have d1:=hb.cell 0;simp only [thC] at c1;simp at c1 d1
 by_cases he:x.key=k
 ·have hbeq:(x.key.toList==k.toList)=true:=by rw [he];simp
  rw [decide_eq_true he];clear he hq hb
  go_enter Tryz.func129,Tryz.ntmps129
  go_wp2_with fail
  go_quiet (fail)
  go_wp2_with fail;go_ret;exact ⟨rfl,_,rfl⟩
 ·have hbeq:(x.key.toList==k.toList)=false:=by
   rw [Bool.eq_false_iff];intro h;exact he (V9 (by simpa using h))
  rw [decide_eq_false he];clear he hq hb
  go_enter Tryz.func129,Tryz.ntmps129
  go_wp2_with fail
  go_quiet (fail)
  go_wp2_with fail;go_ret;exact ⟨rfl,_,rfl⟩
def v1l:Option Nat->Int
 | none=>-1
 | some i=>i
def G5(L:List Th)(k:ByteArray):Option Nat:=L.findIdx? fun t=>decide (t.key=k)
theorem Dh(L:List Th)(rv:Value)(k:ByteArray)(b:Nat)(hL:L.length<=100000)(w:World)(hr:w.ownsRow 0 X3 1 rv L.length (L.map Yv))(hth:∀ t∈L,Blk w t.q Uy (thC t.s t.toIt))(hb:Blk w b 9 #[.string k]) :
 Calls Tryz.prog 161 #[rv,.func (.func 129) #[] #[.pointer (some ⟨b,0,none⟩)]] w fun e w'=>e=.returned (.int .i64 (v1l (G5 L k)))/\∃ n,w'=w.drewN n:=by
 obtain ⟨A,cap,rfl,hlc,_,hcells⟩:=M2 hr;have HC:=jY (fun i (hi:i<L.length)=>hcells i _ (lAa hi));have HTH:=jY (fun i (hi:i<L.length)=>hth _ (List.getElem_mem hi));have HB:=jY hb
 have HI:∀ i (hi:i<L.length),Hid (L[i].key=k->(∀ j (hj:j<L.length),j<i->L[j].key≠k)->G5 L k=some i):=fun i hi=>jY fun e hno=>by
  unfold G5;rw [List.findIdx?_eq_some_iff_getElem];exact ⟨hi,by simpa using e,fun j hj=>by simpa using hno j (by omega) hj⟩
 have HN:Hid ((∀ j (hj:j<L.length),L[j].key≠k)->G5 L k=none):=jY fun hno=>by
  unfold G5;rw [List.findIdx?_eq_none_iff];intro t ht;obtain ⟨j,hj,rfl⟩:=List.mem_iff_getElem.1 ht
  simpa using hno j hj
 clear hr hth hb hcells;generalize G5 L k=r at *
 go_enter Tryz.func161,Tryz.ntmps161
 go_wp2
 go_loopw [8] (fun i wr=>∃ (n m:Nat),i=.int .i64 n/\n<=L.length/\wr=w.drewN m/\Hid (∀ j (hj:j<L.length),j<n->L[j].key≠k)) (fun i _=>L.length-(intOf i).toNat)
 case atStart=>exact ⟨0,0,rfl,by omega,rfl,jY fun j hj h=>by omega⟩
 case round =>
  obtain ⟨n,m,rfl,hn,rfl,hno⟩:=hrel
  by_cases hlt:n<L.length
  ·obtain ⟨g,rfl,c0,_⟩:=HC.out n hlt;have hp:=fun W (hW:∃ q,W=w.drewN q)=>jY (z8r L[n].s L[n].q b L[n].toIt k W (by obtain ⟨q,rfl⟩:=hW;exact HTH.out n hlt) (by obtain ⟨q,rfl⟩:=hW;exact HB.out));have hk2:(n:Int)<L.length:=by omega
   have HIN:=HI n hlt
   have HNO:=jY (show L[n].key≠k->∀ j (hj:j<L.length),j<n+1->L[j].key≠k from fun h j hj h2=>by
    by_cases e:j=n
    ·subst e;exact h
    ·exact hno.out j hj (by omega))
   unfold Yv at c0;generalize L[n]=t at *
   by_cases he:t.key=k
   ·rw [decide_eq_true he] at hp;have HR:=jY (HIN.out he hno.out);clear HIN HNO hno he;go_wp2_with fail;refine (hp _ ⟨_,rfl⟩).out.mono ?_;rintro e w1 ⟨rfl,q,rfl⟩;go_wp2;go_ret;exact ⟨by rw [HR.out];rfl,_,rfl⟩
   ·rw [decide_eq_false he] at hp;have HR:=jY (HNO.out he);clear HIN HNO hno he;go_wp2_with fail;refine (hp _ ⟨_,rfl⟩).out.mono ?_;rintro e w1 ⟨rfl,q,rfl⟩;go_wp2
    go_roundw
    case rel=>exact ⟨n+1,_,by go_num,hlt,rfl,HR⟩
    case measure=>simp [intOf];omega
  ·obtain rfl:n=L.length:=by omega
   have HR:=jY (HN.out fun j hj=>hno.out j hj hj);clear hno;go_wp2;go_ret;exact ⟨by rw [HR.out];rfl,_,rfl⟩
def X4(E:List Value)(i0 n:Nat):List Value:=(E.eraseIdx i0).take n++E.drop n
theorem Mh{E:List Value}{i0 n:Nat}(hn:n+1<=E.length)(h0:i0<E.length)(j:Nat):(X4 E i0 n)[j]?=if j<n then (if j<i0 then E[j]? else E[j+1]?) else E[j]?:=by
 unfold X4;have hl:((E.eraseIdx i0).take n).length=n:=by rw [List.length_take,List.length_eraseIdx,if_pos h0];omega
 by_cases h:j<n
 ·rw [if_pos h,List.getElem?_append_left (by omega),List.getElem?_take,if_pos h,List.getElem?_eraseIdx]
 ·rw [if_neg h,List.getElem?_append_right (by omega),hl,List.getElem?_drop]
  congr 1;omega
theorem z0y{E:List Value}{i0:Nat}(h:i0<E.length):X4 E i0 i0=E:=by
 apply List.ext_getElem?
 intro j;rw [Mh h h]
 by_cases h1:j<i0
 ·rw [if_pos h1,if_pos h1]
 ·rw [if_neg h1]
theorem Kp{E:List Value}{i0 n:Nat}(hn:n+1<=E.length)(h0:i0<E.length):(X4 E i0 n).length=E.length:=by
 unfold X4;rw [lAh,List.length_take,List.length_eraseIdx,if_pos h0,List.length_drop];omega
theorem z3r{E:List Value}{i0 n:Nat}(h:i0<=n)(hn:n+1<E.length){v:Value}(hv:E[n+1]?=some v):(X4 E i0 n).set n v=X4 E i0 (n+1):=by
 apply List.ext_getElem?
 intro j;rw [Mh (by omega) (by omega),List.getElem?_set,Mh (by omega) (by omega),Kp (by omega) (by omega)]
 by_cases e:n=j
 ·subst e;rw [if_pos rfl,if_pos (show n<E.length by omega),if_pos (show n<n+1 by omega),if_neg (show ¬ n<i0 by omega),hv]
 ·rw [if_neg e]
  by_cases h1:j<n
  ·rw [if_pos h1,if_pos (show j<n+1 by omega)]
  ·rw [if_neg h1,if_neg (show ¬ j<n+1 by omega)]
theorem z6t{E:List Value}{i0:Nat}(h:i0<E.length):(X4 E i0 (E.length-1)).take (E.length-1)=E.eraseIdx i0:=by
 unfold X4;have hl:(E.eraseIdx i0).length=E.length-1:=by rw [List.length_eraseIdx,if_pos h]
 rw [List.take_append_of_le_length (by rw [List.length_take];omega),List.take_take,Nat.min_self,List.take_of_length_le (by omega)]
theorem x5i{W:World}{g n cap:Nat}{xs:List Value}(h:W.ownsRow 0 X3 1 (.slice (some ⟨g,0,none⟩) n cap) n xs)(i:Nat)(hi:i<=n):W.ownsRow 0 X3 1 (.slice (some ⟨g,0,none⟩) i cap) i (xs.take i):=by
 rcases h.2 with ⟨h',_⟩|⟨g',cap',cur,h',hb,hg,hnc,hcm,hcs,htake⟩
 ·simp at h'
 ·simp only [Value.slice.injEq,Option.some.injEq,Addr.mk.injEq,and_true,true_and] at h';obtain ⟨rfl,rfl⟩:=h';have hl:=h.1;refine ⟨by rw [List.length_take];omega,.inr ⟨g,cap,cur,rfl,hb,hg,by omega,hcm,hcs,?_⟩⟩;rw [<- htake,List.take_take]
  congr 1;omega
theorem x5k{W:World}{g n cap:Nat}{xs:List Value}(h:W.ownsRow 0 X3 1 (.slice (some ⟨g,0,none⟩) n cap) n xs)(vs:List Value)(o:Nat)(ho:n<=o):(W.setCells g o vs).ownsRow 0 X3 1 (.slice (some ⟨g,0,none⟩) n cap) n xs:=by
 rcases h.2 with ⟨h',_⟩|⟨g',cap',cur,h',hb,hg,hnc,hcm,hcs,htake⟩
 ·simp at h'
 ·simp only [Value.slice.injEq,Option.some.injEq,Addr.mk.injEq,and_true,true_and] at h';obtain ⟨rfl,rfl⟩:=h';obtain ⟨c',h1,h2,h3⟩:=Dc.Mv g X3 vs o W cur hg;refine ⟨h.1,.inr ⟨g,cap,c',rfl,hb,h1,hnc,hcm,by rw [h2];exact hcs,?_⟩⟩;rw [<- htake]
  apply List.ext_getElem?
  intro j
  by_cases hj:j<n*1
  ·rw [List.getElem?_take,List.getElem?_take,if_pos hj,if_pos hj,Array.getElem?_toList,Array.getElem?_toList];exact h3 j (by omega)
  ·rw [List.getElem?_take,List.getElem?_take,if_neg hj,if_neg hj]
theorem z1f(w:World)(ty:TypeId)(b o c:Nat)(hc:(w.cell? ⟨b,o,none⟩).isSome=true)(hf:w.frozen? ⟨b,o,none⟩=false) :
 (Builtin.clear_ #[65] ty #[.slice (some ⟨b,o,none⟩) 1 c]).run Tryz.prog w=.ok (.tuple #[]) (w.setCells b o [.pointer none]):=by
 have hst:=run_storeCells_cells (P:=Tryz.prog) b o [.pointer none] 0 w (by simpa using hc) (by simpa using hf) (by intro v hv;simp at hv;rcases hv with rfl;rfl);simp only [Nat.add_zero] at hst;have hzc:(Builtin.zeroCells (Value.pointer none).cells 1).toList=[.pointer none]:=by kernel_rfl
 simp [Builtin.clear_,run_underlying Tryz.underlying65,Tryz.zeroValue79,hzc,hst]
theorem I0{L:List Th}{k:ByteArray}{i:Nat}(h:G5 L k=some i):∃ hi:i<L.length,L[i].key=k:=by
 unfold G5 at h;rw [List.findIdx?_eq_some_iff_getElem] at h;obtain ⟨hi,h1,_⟩:=h;exact ⟨hi,by simpa using h1⟩
theorem z1x{L:List Th}{k:ByteArray}(h:G5 L k=none):∀ t∈L,t.key≠k:=by
 unfold G5 at h;rw [List.findIdx?_eq_none_iff] at h;exact fun t ht=>by simpa using h t ht
def Yl(L:List Th)(k:ByteArray):List Th:=match G5 L k with
 | none=>L
 | some i=>L.eraseIdx i
theorem x1t(L:List Th)(hk:Y6 (itl L))(rv:Value)(k:ByteArray)(b:Nat)(hL:L.length<=100000)(w:World)(hr:w.ownsRow 0 X3 1 rv L.length (L.map Yv))(hth:∀ t∈L,Blk w t.q Uy (thC t.s t.toIt))(hb:Blk w b 9 #[.string k]) :
 Calls Tryz.prog 128 #[rv,.func (.func 129) #[] #[.pointer (some ⟨b,0,none⟩)]] w fun e w'=>∃ rv',e=.returned rv'/\rv'.ownBlock=rv.ownBlock/\w'.ownsRow 0 X3 1 rv' (Yl L k).length ((Yl L k).map Yv)/\Far (fun j=>rv.ownBlock=some j) w w':=by
 have HX:=jY (Dh L rv k b hL w hr hth hb);unfold Yl
 cases hi:G5 L k with
 | none =>
   rw [hi] at HX;simp only [v1l] at HX;have HR:=jY hr;clear hr hth hb hi hk
   go_enter Tryz.func128,Tryz.ntmps128
   go_wp2_with fail;refine HX.out.mono ?_;rintro e w1 ⟨rfl,n,rfl⟩;go_wp2;go_ret;exact ⟨_,rfl,rfl,HR.out,Far.of_below (Zk w n)⟩
 | some i0 =>
   rw [hi] at HX;simp only [v1l] at HX;obtain ⟨hi0,hke⟩:=I0 hi;obtain ⟨A,cap,rfl,hlc,hmax,hcells⟩:=M2 hr;obtain ⟨g,rfl,_⟩:=hcells i0 _ (lAa hi0);clear hcells;have hmm:(cap:Int)<=9223372036854775807:=by unfold maxLen at hmax;omega
   have HOTH:∀ j (hj:j<L.length),i0<j->Hid (L[j].key≠k):=fun j hj hij=>jY fun e=>by
    have hnd:(L.map fun t=>t.key).Nodup:=by
     have:=hk
     unfold Y6 itl at this
     rwa [List.map_map] at this
    have h2:=(List.getElem_inj (i:=j) (j:=i0) (h₀:=by simpa using hj) (h₁:=by simpa using hi0) hnd).1 (by simp only [List.getElem_map];rw [e,hke]);omega
   have HTH:=jY (fun W (hf:Far (fun j=>j=g) w W) t (ht:t∈L)=>hf.blk (hth t ht) fun e=>by
    obtain ⟨c,hc⟩:=X5 hr (k:=g) rfl;have h1:=hth t ht;rw [e] at h1
    exact absurd (h1.ty hc) (by decide))
   have HB:=jY (fun W (hf:Far (fun j=>j=g) w W)=>hf.blk hb fun e=>by
    obtain ⟨c,hc⟩:=X5 hr (k:=g) rfl;rw [e] at hb
    exact absurd (hb.ty hc) (by decide))
   have hlm:(L.map Yv).length=L.length:=List.length_map ..;have HST:=jY (show w.ownsRow 0 X3 1 (.slice (some ⟨g,0,none⟩) L.length cap) L.length (X4 (L.map Yv) i0 i0) by rw [z0y (by omega)];exact hr);have HSTEP:=jY (fun n v=>z3r (E:=L.map Yv) (i0:=i0) (n:=n) (v:=v));have HAT:=jY (fun n j hn=>Mh (E:=L.map Yv) (i0:=i0) (n:=n) hn (by omega) j);have hel:(L.eraseIdx i0).length=L.length-1:=by rw [List.length_eraseIdx,if_pos hi0]
   have HEND:=jY (show (X4 (L.map Yv) i0 (L.length-1)).take (L.length-1)=(L.eraseIdx i0).map Yv by
    have:=z6t (E:=L.map Yv) (i0:=i0) (by omega)
    rw [hlm] at this
    rw [this,List.eraseIdx_eq_take_drop_succ,List.eraseIdx_eq_take_drop_succ,List.map_append,List.map_take,List.map_drop])
   rw [hel];have h1:(L.length:Int)<=100000:=by omega
   have h2:(L.length:Int)<=cap:=by omega
   have h3:(i0:Int)<L.length:=by omega
   have h4:((i0:Int)==-1)=false:=by simp
   clear hr hth hb hi hk hke hlm hel
   go_enter Tryz.func128,Tryz.ntmps128
   go_wp2_with fail;refine HX.out.mono ?_;rintro e w1 ⟨rfl,n,rfl⟩;go_wp2
   go_loopw [5,6] (fun i j wr=>∃ (n:Nat),i=.int .i64 n/\j=.int .i64 ((n:Int)+1)/\i0<=n/\n+1<=L.length/\Hid (wr.ownsRow 0 X3 1 (.slice (some ⟨g,0,none⟩) L.length cap) L.length (X4 (L.map Yv) i0 n))/\Hid (Far (fun j=>j=g) w wr)) (fun i _ _=>L.length-(intOf i).toNat)
   case atStart=>exact ⟨i0,rfl,rfl,lAd _,hi0,jY HST.out,jY (Far.of_below (Zk w n))⟩
   case round =>
    obtain ⟨n,rfl,rfl,hin,hn,HR,HF⟩:=hrel
    by_cases hlt:n+1<L.length
    ·have hk2:(n:Int)+1<L.length:=by omega
     have hv:(L.map Yv)[n+1]?=some (Yv L[n+1]):=by rw [List.getElem?_map,lAa hlt];rfl
     have hc:=World.ownsRow.cellAt (base:=0) (e:=X3) (size:=1) (g:=g) (n:=L.length) (cap:=cap) (xs:=X4 (L.map Yv) i0 n) HR.out (n+1) (by omega);rw [HAT.out n (n+1) (by simpa using hn),if_neg (by omega),hv] at hc;have hp:=fun W (hf:Far (fun j=>j=g) w W)=>jY (z8r L[n+1].s L[n+1].q b L[n+1].toIt k W (HTH.out W hf _ (List.getElem_mem hlt)) (HB.out W hf));have hne:=(HOTH (n+1) hlt (by omega)).out;have HST2:=jY (HSTEP.out n _ hin (by simpa using hlt) hv);generalize L[n+1]=t at *;have hpt:Yv t=.pointer (some ⟨t.q,0,none⟩):=rfl;have est:=HST2.out;rw [hpt] at hc est;have HST3:=jY est;clear est HST2 hpt;rw [decide_eq_false hne] at hp;have hp2:=hp wr HF.out;have hfz:=World.ownsRow.frozenAt (base:=0) (e:=X3) (size:=1) (g:=g) (n:=L.length) (cap:=cap) (xs:=X4 (L.map Yv) i0 n) HR.out n;have hcn:=World.ownsRow.cellAt (base:=0) (e:=X3) (size:=1) (g:=g) (n:=L.length) (cap:=cap) (xs:=X4 (L.map Yv) i0 n) HR.out n (by omega);obtain ⟨old,hold⟩:∃ old,(X4 (L.map Yv) i0 n)[n]?=some old:=⟨_,lAa (by rw [Kp (by simpa using hn) (by simpa using hi0)];simpa using (show n<L.length by omega))⟩;rw [hold] at hcn;clear hne hp hv hold;go_wp2_with fail;refine hp2.out.mono ?_;rintro e w2 ⟨rfl,q,rfl⟩
     have FIN:=jY (show ((wr.drewN q).setCell ⟨g,n,none⟩ (.pointer (some ⟨t.q,0,none⟩))).ownsRow 0 X3 1 (.slice (some ⟨g,0,none⟩) L.length cap) L.length (X4 (L.map Yv) i0 (n+1))/\Far (fun j=>j=g) w ((wr.drewN q).setCell ⟨g,n,none⟩ (.pointer (some ⟨t.q,0,none⟩))) from by
      refine ⟨?_,(HF.out.then_below (Zk wr q)).set ⟨g,n,none⟩ _ (.inl rfl)⟩
      have:=World.ownsRow.stored (base:=0) (e:=X3) (size:=1) (g:=g) (n:=L.length) (cap:=cap) (xs:=X4 (L.map Yv) i0 n) (w:=wr.drewN q) HR.out n (.pointer (some ⟨t.q,0,none⟩))
      rw [HST3.out] at this
      exact this.1)
     go_wp2_with fail;exact ⟨⟨n+1,by go_num,by go_num,by omega,hlt,jY FIN.out.1,jY FIN.out.2⟩,by simp [intOf];omega⟩
    ·obtain rfl:n=L.length-1:=by omega
     have e1:((L.length-1:Nat):Int)+1=L.length:=by omega
     have e2:((L.length-1:Nat):Int)=(L.length:Int)-1:=by omega
     have hcl:=fun ty c=>z1f wr ty g (L.length-1) c (by
      rw [World.ownsRow.cellAt (base:=0) (e:=X3) (size:=1) (g:=g) (n:=L.length) (cap:=cap) (xs:=X4 (L.map Yv) i0 (L.length-1)) HR.out (L.length-1) (by omega),lAa (by rw [Kp (by simpa using hn) (by simpa using hi0)];simpa using (show L.length-1<L.length by omega))]
      rfl) (World.ownsRow.frozenAt (base:=0) (e:=X3) (size:=1) (g:=g) (n:=L.length) (cap:=cap) (xs:=X4 (L.map Yv) i0 (L.length-1)) HR.out _)
     have HE:=jY (show (wr.setCells g (L.length-1) [.pointer none]).ownsRow 0 X3 1 (.slice (some ⟨g,0,none⟩) (L.length-1:Nat) cap) (L.length-1) ((L.eraseIdx i0).map Yv)/\Far (fun j=>j=g) w (wr.setCells g (L.length-1) [.pointer none]) from by
      have h1:=x5i HR.out (L.length-1) (by omega);rw [HEND.out] at h1
      exact ⟨x5k h1 _ _ (lAd _),HF.out.trans (y2r (Dc.Pa (S:=fun j=>j=g) g rfl _ _ _)) fun k hk=>.inl hk⟩)
     have hcc:(cap==L.length-1)=false:=by simp;omega
     have hone:L.length-(L.length-1)=1:=by omega
     clear HR HF HST HSTEP HAT HTH HB HOTH HX hin hn;go_wp2;go_ret;exact ⟨_,rfl,rfl,HE.out.1,HE.out.2.mono fun j e=>by rw [e];rfl⟩
end Go.Proofs.YtcklcmafohlflaaGreatDoor

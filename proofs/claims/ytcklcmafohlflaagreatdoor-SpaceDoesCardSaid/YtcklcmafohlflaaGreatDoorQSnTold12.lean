/- Texts of one kind in one: SnTold, SnFront, SnSmall, SnNil, SnAll. -/
import Derived.Test.YtcklcmafohlflaaGreatDoorQSnKeys11
set_option maxRecDepth 200000
set_option maxHeartbeats 8000000
namespace Go.Proofs.YtcklcmafohlflaaGreatDoor.Dc.Dt
open Zc
open Go.RowKit Go.Shelf Go.Sort
attribute [local go_sem] Oper.semAt_some
def Pu(seed:Nat)(k:List UInt8):Nat:=Y1 (Zq seed k)
theorem Bi(seed:Nat)(k:List UInt8):Pu seed k<4294967296:=V1 _ (Of _ _)
structure Placed (seed s:Nat) (rows:List (List Nd)):Prop where
 size:isS (s:Int)=true
 len:rows.length=s
 at_:∀ (i:Nat) r,rows[i]?=some r->∀ x∈r,x.sum % s=i
 sum:∀ x∈rows.flatten,x.sum=Zq seed (Zs x)
theorem Placed.row{seed s:Nat}{rows:List (List Nd)}(h:Placed seed s rows){j:Nat}(hj:j<s)(x:Nd):x∈rows.getD j []↔x∈rows.flatten/\x.sum % s=j:=by
 have hl:j<rows.length:=by rw [h.len];exact hj
 rw [List.getD_eq_getElem?_getD,lAa hl];show x∈rows[j]↔_
 constructor
 ·intro hx;exact ⟨List.mem_flatten.2 ⟨_,List.getElem_mem hl,hx⟩,h.at_ j _ (lAa hl) x hx⟩
 ·rintro ⟨hx,he⟩;obtain ⟨r,hr,hxr⟩:=List.mem_flatten.1 hx;obtain ⟨i,hi⟩:=List.getElem?_of_mem hr
  have:=h.at_ i r hi x hxr
  rw [he] at this;subst this;rw [lAa hl] at hi
  cases hi
  exact hxr
theorem Placed.pos{seed s:Nat}{rows:List (List Nd)}(h:Placed seed s rows){x:Nd}(hx:x∈rows.flatten):x.sum % s=X7 s (Pu seed (Zs x) / Z8 s)/\Pu seed (Zs x) / Z8 s<s:=by
 rw [h.sum x hx];exact ⟨x1q s _ h.size (Of _ _),Ms s _ h.size (Of _ _)⟩
theorem Placed.mem{seed s:Nat}{rows:List (List Nd)}(h:Placed seed s rows)(q:Nat)(k:List UInt8):∀ n,q+n<=s ->
 (k∈U5 rows s q n↔∃ x∈rows.flatten,Zs x=k/\q<=Pu seed k / Z8 s/\Pu seed k / Z8 s<q+n)
 | 0,_=>by
   simp only [U5,List.not_mem_nil,false_iff];rintro ⟨x,_,_,h1,h2⟩;omega
 | n+1,hn=>by
   have hcl:=Kq s (q+n) h.size (by omega);rw [U5,List.mem_append,h.mem q k n (by omega),(Uk _).mem_iff,List.mem_map]
   constructor
   ·rintro (⟨x,h1,h2,h3,h4⟩|⟨x,h1,rfl⟩)
    ·exact ⟨x,h1,h2,h3,by omega⟩
    ·obtain ⟨h3,h4⟩:=(h.row hcl x).1 h1;obtain ⟨h5,h6⟩:=h.pos h3
     have:=z3u s _ _ h.size h6 (by omega) (h5.symm.trans h4)
     exact ⟨x,h3,rfl,by omega,by omega⟩
   ·rintro ⟨x,h1,rfl,h3,h4⟩;obtain ⟨h5,h6⟩:=h.pos h1
    by_cases he:Pu seed (Zs x) / Z8 s=q+n
    ·exact .inr ⟨x,(h.row hcl x).2 ⟨h1,by rw [h5,he]⟩,rfl⟩
    ·exact .inl ⟨x,h1,rfl,h3,by omega⟩
theorem Placed.nodup{seed s:Nat}{rows:List (List Nd)}(h:Placed seed s rows)(hu:(rows.flatten.map Zs).Nodup)(q:Nat):∀ n,q+n<=s->(U5 rows s q n).Nodup
 | 0,_=>List.nodup_nil
 | n+1,hn=>by
   have hcl:=Kq s (q+n) h.size (by omega);rw [U5,List.nodup_append];refine ⟨h.nodup hu q n (by omega),(Uk _).nodup_iff.2 ?_,?_⟩
   ·refine List.Nodup.sublist ?_ hu;have hl:X7 s (q+n)<rows.length:=by rw [h.len];exact hcl
    rw [List.getD_eq_getElem?_getD,lAa hl];exact (List.sublist_flatten_of_mem (List.getElem_mem hl)).map _
   ·intro a ha b hb e;subst e;obtain ⟨x,h1,h2,h3,h4⟩:=(h.mem q a n (by omega)).1 ha;obtain ⟨y,h5,h6⟩:=List.mem_map.1 ((Uk _).mem_iff.1 hb);obtain ⟨h7,h8⟩:=(h.row hcl y).1 h5;obtain ⟨h9,h10⟩:=h.pos h7;rw [h6] at h9 h10
    have:=z3u s _ _ h.size h10 (by omega) (h9.symm.trans h8)
    omega
section
variable {seed:Nat} {D:Dc}
theorem _root_.Go.Proofs.YtcklcmafohlflaaGreatDoor.Dc.Inv.placed(h:Inv tyP seed D)(x:Nat × Nat)(hx:x=Y3 D.a.length D.b.length\/x=Zl D.a.length D.b.length)(ha:D.a.length<=1024)(hb:D.b.length<=1024):Placed seed x.2 (Xr D x.1):=by
 obtain ⟨h1,h2,h3,_⟩:=Vj h.ok x hx ha hb;refine ⟨h2,h3,?_,?_⟩
 ·rw [<- h3];rcases h1 with e|e
  ·rw [e];exact h.pa
  ·rw [e];exact h.pb
 ·intro y hy;refine h.sum y ?_;rcases h1 with e|e
  ·rw [e] at hy;exact List.mem_append_left _ hy
  ·rw [e] at hy;exact List.mem_append_right _ hy
theorem _root_.Go.Proofs.YtcklcmafohlflaaGreatDoor.Dc.Inv.uniqK(h:Inv tyP seed D):(D.nodes.map Zs).Nodup:=by
 have h4:D.nodes.map Zs=(D.nodes.map Nd.key).map (fun k=>k.data.toList):=by rw [List.map_map];rfl
 rw [h4];exact List.Pairwise.map _ (fun a b hab e=>hab (ByteArray.ext (Array.toList_inj.1 e))) h.uniq
theorem Jc(D:Dc)(t:Nat)(ht:t=0\/t=1):(Xr D t).flatten.Sublist D.nodes:=by
 rcases ht with rfl|rfl
 ·exact List.sublist_append_left _ _
 ·exact List.sublist_append_right _ _
theorem z1y(D:Dc)(x:Nd):x∈D.nodes↔x∈(Xr D (Y3 D.a.length D.b.length).1).flatten\/(D.b≠[]/\x∈(Xr D (Zl D.a.length D.b.length).1).flatten):=by
 have hb0:D.b.length=0↔D.b=[]:=List.length_eq_zero_iff;unfold Dc.nodes Y3 Zl;rw [List.mem_append]
 by_cases h:D.b=[]
 ·have h0:=hb0.2 h;rw [if_pos (.inl h0)]
  constructor
  ·rintro (h1|h1)
   ·exact .inl h1
   ·rw [h] at h1;simp at h1
  ·rintro (h1|⟨h1,_⟩)
   ·exact .inl h1
   ·exact absurd h h1
 ·have h0:¬ D.b.length=0:=fun e=>h (hb0.1 e)
  by_cases h1:D.a.length<=D.b.length
  ·rw [if_pos (.inr h1),if_neg (by omega)]
   constructor
   ·rintro (h2|h2)
    ·exact .inl h2
    ·exact .inr ⟨h,h2⟩
   ·rintro (h2|⟨_,h2⟩)
    ·exact .inl h2
    ·exact .inr h2
  ·rw [if_neg (by omega),if_pos (.inr (by omega))]
   constructor
   ·rintro (h2|h2)
    ·exact .inr ⟨h,h2⟩
    ·exact .inl h2
   ·rintro (h2|⟨_,h2⟩)
    ·exact .inr h2
    ·exact .inl h2
theorem z6i(h:Inv tyP seed D)(hb:D.b≠[])(x y:Nd)(hx:x∈(Xr D (Y3 D.a.length D.b.length).1).flatten)(hy:y∈(Xr D (Zl D.a.length D.b.length).1).flatten):Zs x≠Zs y:=by
 have hu:=h.uniqK;unfold Dc.nodes at hu;rw [List.map_append,List.nodup_append] at hu;have h0:¬ D.b.length=0:=fun e=>hb (List.length_eq_zero_iff.1 e);unfold Y3 at hx;unfold Zl at hy
 by_cases h1:D.a.length<=D.b.length
 ·rw [if_pos (.inr h1)] at hx;rw [if_neg (by omega)] at hy;exact hu.2.2 _ (List.mem_map_of_mem hx) _ (List.mem_map_of_mem hy)
 ·rw [if_neg (by omega)] at hx;rw [if_pos (.inr (by omega))] at hy;exact fun e=>hu.2.2 _ (List.mem_map_of_mem hy) _ (List.mem_map_of_mem hx) e.symm
theorem y9h(h:Inv tyP seed D)(ha:D.a.length<=1024)(hb:D.b.length<=1024)(P:Nat)(hP:P<4294967296) :
 (Py D P).Nodup/\(∀ k∈Py D P,(∃ x∈D.nodes,Zs x=k)/\Pu seed k / Z8 D.least=P / Z8 D.least) /\
   ∀ x∈D.nodes,P<=Pu seed (Zs x)->Pu seed (Zs x) / Z8 D.least=P / Z8 D.least->Zs x∈Py D P:=by
 have hs:=h.placed _ (.inl rfl) ha hb;have hg:=h.placed _ (.inr rfl) ha hb;have s1:=(Vj h.ok _ (.inl rfl) ha hb).1;have g1:=(Vj h.ok _ (.inr rfl) ha hb).1;have hle:=z3g D.a.length D.b.length;obtain ⟨e1,e2,e3,e4,e5,e6,e7⟩:=Kx _ _ hs.size hg.size hle P hP
 have hPs:P / Z8 (Y3 D.a.length D.b.length).2<(Y3 D.a.length D.b.length).2:=by
  have h2:=Ms _ (Y1 P) hs.size (V1 P hP)
  rwa [U3 P hP] at h2
 have ms:=fun k=>hs.mem (P / Z8 D.least) k 1 (by show P / Z8 (Y3 D.a.length D.b.length).2+1<=_;omega);have mg:=fun k=>hg.mem (P / Z8 (Zl D.a.length D.b.length).2) k (Kb (Zl D.a.length D.b.length).2 D.least (P / Z8 (Zl D.a.length D.b.length).2)+1) (by show _+(Kb (Zl D.a.length D.b.length).2 (Y3 D.a.length D.b.length).2 (P / Z8 (Zl D.a.length D.b.length).2)+1)<=_;omega);have us:=List.Nodup.sublist ((Jc D _ s1).map Zs) h.uniqK;have ug:=List.Nodup.sublist ((Jc D _ g1).map Zs) h.uniqK
 -- a position's part of the greater size, cut down to the lesser one's
 have cut:∀ Q,Q<4294967296->(Q / Z8 (Zl D.a.length D.b.length).2) / U8 (Zl D.a.length D.b.length).2 D.least=Q / Z8 D.least:=fun Q hQ=>(Kx _ _ hs.size hg.size hle Q hQ).1;have up:P / Z8 (Zl D.a.length D.b.length).2+Kb (Zl D.a.length D.b.length).2 D.least (P / Z8 (Zl D.a.length D.b.length).2)+1=(P / Z8 D.least+1)*U8 (Zl D.a.length D.b.length).2 D.least:=e7;have rp:0<U8 (Zl D.a.length D.b.length).2 D.least:=e6;clear e1 e2 e3 e4 e5 e6 e7
 by_cases hb0:D.b=[]
 ·have hk:Py D P=U5 (Xr D (Y3 D.a.length D.b.length).1) D.least (P / Z8 D.least) 1:=by unfold Py;rw [if_pos hb0,List.append_nil]
  rw [hk];refine ⟨hs.nodup us _ 1 (by show P / Z8 (Y3 D.a.length D.b.length).2+1<=_;omega),fun k hk=>?_,fun x hx h1 h2=>?_⟩
  ·obtain ⟨x,h1,h2,h3,h4⟩:=(ms k).1 hk;exact ⟨⟨x,(Jc D _ s1).mem h1,h2⟩,by have:Z8 (Y3 D.a.length D.b.length).2=Z8 D.least:=rfl;rw [this] at h3 h4;omega⟩
  ·rcases (z1y D x).1 hx with h3|⟨h3,_⟩
   ·refine (ms _).2 ⟨x,h3,rfl,?_,?_⟩
    ·show _<=Pu seed (Zs x) / Z8 D.least;omega
    ·show Pu seed (Zs x) / Z8 D.least<_;omega
   ·exact absurd hb0 h3
 ·have hk:Py D P=U5 (Xr D (Y3 D.a.length D.b.length).1) D.least (P / Z8 D.least) 1++U5 (Xr D (Zl D.a.length D.b.length).1) (Zl D.a.length D.b.length).2 (P / Z8 (Zl D.a.length D.b.length).2) (Kb (Zl D.a.length D.b.length).2 D.least (P / Z8 (Zl D.a.length D.b.length).2)+1):=by unfold Py;rw [if_neg hb0]
  rw [hk];refine ⟨?_,fun k hk=>?_,fun x hx h1 h2=>?_⟩
  ·rw [List.nodup_append]
   refine ⟨hs.nodup us _ 1 (by show P / Z8 (Y3 D.a.length D.b.length).2+1<=_;omega),hg.nodup ug _ _ (by
    have h5:(P / Z8 D.least+1)*U8 (Zl D.a.length D.b.length).2 D.least<=D.least*U8 (Zl D.a.length D.b.length).2 D.least:=Nat.mul_le_mul_right _ hPs;have h6:D.least*U8 (Zl D.a.length D.b.length).2 D.least<=(Zl D.a.length D.b.length).2:=Nat.mul_div_le _ _
    omega),?_⟩
   intro a ha' b hb' e;subst e;obtain ⟨x,h1,h2,_⟩:=(ms a).1 ha';obtain ⟨y,h3,h4,_⟩:=(mg a).1 hb';exact z6i h hb0 x y h1 h3 (h2.trans h4.symm)
  ·rcases List.mem_append.1 hk with hk|hk
   ·obtain ⟨x,h1,h2,h3,h4⟩:=(ms k).1 hk;exact ⟨⟨x,(Jc D _ s1).mem h1,h2⟩,by have:Z8 (Y3 D.a.length D.b.length).2=Z8 D.least:=rfl;rw [this] at h3 h4;omega⟩
   ·obtain ⟨x,h1,h2,h3,h4⟩:=(mg k).1 hk;refine ⟨⟨x,(Jc D _ g1).mem h1,h2⟩,?_⟩;have c1:=cut P hP;have c2:=cut (Pu seed k) (Bi _ _);have c3:=Nat.div_le_div_right (c:=U8 (Zl D.a.length D.b.length).2 D.least) h3;have c4:Pu seed k / Z8 (Zl D.a.length D.b.length).2<(P / Z8 D.least+1)*U8 (Zl D.a.length D.b.length).2 D.least:=by omega
    have c5:=(Nat.div_lt_iff_lt_mul rp).2 c4;omega
  ·rcases (z1y D x).1 hx with h3|⟨_,h3⟩
   ·refine List.mem_append_left _ ((ms _).2 ⟨x,h3,rfl,?_,?_⟩)
    ·show _<=Pu seed (Zs x) / Z8 D.least;omega
    ·show Pu seed (Zs x) / Z8 D.least<_;omega
   ·refine List.mem_append_right _ ((mg _).2 ⟨x,h3,rfl,Nat.div_le_div_right h1,?_⟩);have c2:=cut (Pu seed (Zs x)) (Bi _ _);have c5:Pu seed (Zs x) / Z8 (Zl D.a.length D.b.length).2 / U8 (Zl D.a.length D.b.length).2 D.least<P / Z8 D.least+1:=by omega
    have c6:=(Nat.div_lt_iff_lt_mul rp).1 c5;omega
end
def _root_.Go.Proofs.YtcklcmafohlflaaGreatDoor.Dc.Sh.small(h:Sh):Prop:=h.A<=1024/\h.B<=1024
def Kz(k:List UInt8):ByteArray:=⟨k.toArray⟩
theorem Dk(k:List UInt8):(Kz k).data.toList=k:=by simp [Kz]
theorem Dj(k:ByteArray):Kz k.data.toList=k:=by unfold Kz;exact ByteArray.ext (by simp)
section
variable {w:World} {S:Nat->Prop} {p seed:Nat} {m:ByteArray->Option Addr} {n:Sh}
structure Tells (seed:Nat) (m:ByteArray->Option Addr) (s P:Nat) (L:List (List UInt8)):Prop where
 nodup:L.Nodup
 is:∀ k∈L,(m (Kz k)).isSome=true/\Pu seed k / Z8 s=P / Z8 s
 all:∀ k,(m (Kz k)).isSome=true->P<=Pu seed k->Pu seed k / Z8 s=P / Z8 s->k∈L
theorem Tells.of{D:Dc}(hL:Like tyP seed D (fun k=>(m k).map Q7))(hs:D.shape.small)(P:Nat)(hP:P<4294967296):Tells seed m D.least P (Py D P):=by
 obtain ⟨a1,a2,a3⟩:=y9h hL.1 hs.1 hs.2 P hP;refine ⟨a1,fun k hk=>?_,fun k hk h1 h2=>?_⟩
 ·obtain ⟨⟨x,hx,rfl⟩,h3⟩:=a2 k hk;refine ⟨?_,h3⟩
  have:=(hL.2 x.key x.v).1 ⟨x,hx,rfl,rfl⟩
  unfold Zs;rw [Dj]
  cases hm:m x.key with
  | none=>simp [hm] at this
  | some v=>rfl
 ·obtain ⟨v,hv⟩:=Option.isSome_iff_exists.1 hk;obtain ⟨x,hx,hkx,_⟩:=(hL.2 (Kz k) (Q7 v)).2 (by simp [hv]);have e:Zs x=k:=by unfold Zs;rw [hkx,Dk]
  rw [<- e] at h1 h2 ⊢;exact a3 x hx h1 h2
end
structure Scanned (seed:Nat) (m:ByteArray->Option Addr) (F:Nat) (L:List (List UInt8)):Prop where
 nodup:L.Nodup
 is:∀ k∈L,(m (Kz k)).isSome=true/\Pu seed k<F
 all:∀ k,(m (Kz k)).isSome=true->Pu seed k<F->k∈L
theorem Scanned.start(seed:Nat)(m:ByteArray->Option Addr):Scanned seed m 0 []:=⟨List.nodup_nil,fun k hk=>by simp at hk,fun k _ h=>by omega⟩
theorem K6(s:Nat)(hs:isS (s:Int)=true)(hs2:s<=1024):s*Z8 s=4294967296/\4194304<=Z8 s:=by
 obtain ⟨k,hk,hk2,rfl⟩:=O0 hs;rw [Uz k (by omega)];have h1:k<=10:=(Nat.pow_le_pow_iff_right (a:=2) (by decide)).1 hs2;refine ⟨by rw [<- Nat.pow_add,show k+(32-k)=32 by omega],?_⟩;exact Nat.pow_le_pow_right (n:=2) (by decide) (show 22<=32-k by omega)
theorem x9c{F u q:Nat}(hu:0<u)(hF:F % u=0):q / u=F / u↔F<=q/\q<F+u:=by
 have h1:F=u*(F / u):=by have:=Nat.div_add_mod F u;omega
 have h2:=Nat.div_add_mod q u;have h3:=Nat.mod_lt q hu
 constructor
 ·intro h;rw [h] at h2;omega
 ·rintro ⟨h4,h5⟩;have h6:F / u<=q / u:=Nat.div_le_div_right h4;have h7:q / u<F / u+1:=(Nat.div_lt_iff_lt_mul hu).2 (by rw [Nat.add_mul,Nat.one_mul,Nat.mul_comm];omega);omega
theorem Scanned.next{seed:Nat}{m:ByteArray->Option Addr}{F s:Nat}{L K:List (List UInt8)}(h:Scanned seed m F L)(hu:0<Z8 s)(hF:F % Z8 s=0)(g:Tells seed m s F K):Scanned seed m (F+Z8 s) (L++K):=by
 have key:=fun q=>x9c (q:=q) hu hF;refine ⟨List.nodup_append.2 ⟨h.nodup,g.nodup,fun a ha b hb e=>?_⟩,fun k hk=>?_,fun k hk hp=>?_⟩
 ·subst e;have h1:=(h.is a ha).2;have h2:=(key _).1 (g.is a hb).2;omega
 ·rcases List.mem_append.1 hk with h1|h1
  ·exact ⟨(h.is k h1).1,by have:=(h.is k h1).2;omega⟩
  ·exact ⟨(g.is k h1).1,((key _).1 (g.is k h1).2).2⟩
 ·rcases Nat.lt_or_ge (Pu seed k) F with h1|h1
  ·exact List.mem_append_left _ (h.all k hk h1)
  ·exact List.mem_append_right _ (g.all k hk h1 ((key _).2 ⟨h1,hp⟩))
theorem z2m{L K:List (List UInt8)}(hL:L.Nodup)(h:∀ k∈L,k∈K):L.length<=K.length:=by
 induction L generalizing K with
 | nil=>simp
 | cons a L ih =>
   rw [List.nodup_cons] at hL;have ha:=h a (List.mem_cons_self ..)
   have h2:=ih (K:=K.erase a) hL.2 (fun k hk=>by
    have hne:k≠a:=fun e=>hL.1 (e ▸ hk)
    exact (List.mem_erase_of_ne hne).2 (h k (List.mem_cons_of_mem _ hk)))
   rw [List.length_erase_of_mem ha] at h2
   have:0<K.length:=List.length_pos_of_mem ha
   simp only [List.length_cons];omega
def Xb(F:Nat):Nat:=Y1 (F % 4294967296)
theorem y7k(F:Nat):Xb F<4294967296:=V1 _ (Nat.mod_lt _ (by decide))
theorem Aa(F:Nat)(hF:F<4294967296):Y1 (Xb F)=F:=by
 unfold Xb;rw [U3 _ (Nat.mod_lt _ (by decide)),Nat.mod_eq_of_lt hF]
theorem z7m(F:Nat)(h:Xb F=0):F % 4294967296=0:=z6j (Nat.mod_lt _ (by decide)) h
theorem z7l(s F:Nat)(hs:isS (s:Int)=true)(hF:F<4294967296)(hu:F % Z8 s=0):Fc (Xb F) s=Xb (F+Z8 s)/\F+Z8 s<=4294967296:=by
 obtain ⟨u,hh,h1,h2⟩:=Q9 s hs;have h3:F=u*(F / u):=by have:=Nat.div_add_mod F u;rw [hh] at hu;omega
 have h4:F / u<s:=by rw [Nat.div_lt_iff_lt_mul h2,h1];exact hF
 have h5:(F / u+1)*u<=s*u:=Nat.mul_le_mul_right _ h4;have h6:(F / u+1)*u=F+u:=by rw [Nat.add_mul,Nat.one_mul,Nat.mul_comm];omega
 refine ⟨?_,by rw [hh];omega⟩;unfold Fc upN Xb;rw [U3 _ (Nat.mod_lt _ (by decide)),Nat.mod_eq_of_lt hF,hh,h6]
end Go.Proofs.YtcklcmafohlflaaGreatDoor.Dc.Dt
namespace Go.Proofs.YtcklcmafohlflaaGreatDoor.Dc.Dt
open Zc
end Go.Proofs.YtcklcmafohlflaaGreatDoor.Dc.Dt
namespace Go.Proofs.YtcklcmafohlflaaGreatDoor.Dc.Dt
open Zc
open Go.RowKit Go.Shelf Go.Sort
attribute [local go_sem] Oper.semAt_some
def Uw(D:Dc):Nat->List (List UInt8)
 | 0=>[]
 | j+1=>Uw D j++Py D (j*Z8 D.least)
theorem Jd{seed:Nat}{m:ByteArray->Option Addr}{D:Dc}(hL:Like tyP seed D (fun k=>(m k).map Q7))(hs:D.shape.small):∀ j,j<=D.least->Scanned seed m (j*Z8 D.least) (Uw D j)
 | 0,_=>by rw [Nat.zero_mul];exact Scanned.start _ _
 | j+1,hj=>by
   have h1:=Jd hL hs j (by omega);have h2:=Vj hL.1.ok _ (.inl rfl) hs.1 hs.2;obtain ⟨u1,u2⟩:=K6 D.least h2.2.1 h2.2.2.2
   have h3:j*Z8 D.least<4294967296:=by
    rw [<- u1];exact Nat.mul_lt_mul_of_pos_right (by omega) (by omega)
   have h4:=h1.next (by omega) (Nat.mul_mod_left _ _) (Tells.of hL hs _ h3);rw [Nat.add_mul,Nat.one_mul];exact h4
theorem y9i{seed:Nat}{D:Dc}{m:ByteArray->Option Addr}(hL:Like tyP seed D (fun k=>(m k).map Q7))(hs:D.shape.small)(j:Nat)(hj:j<=D.least):(Uw D j).length<=D.n/\(j=D.least->(Uw D j).length=D.n):=by
 have h1:=Jd hL hs j hj
 have hK:(D.nodes.map Zs).length=D.n:=by
  rw [List.length_map];unfold Dc.nodes;rw [lAh];exact hL.1.ok.n.symm
 have mem:∀ k,k∈D.nodes.map Zs↔(m (Kz k)).isSome=true:=fun k=>by
  constructor
  ·intro hk;obtain ⟨x,hx,hk⟩:=List.mem_map.1 hk
   have:=(hL.2 (Kz k) x.v).1 ⟨x,hx,by rw [<- hk];unfold Zs;rw [Dj],rfl⟩
   cases hm:m (Kz k) with
   | none=>simp [hm] at this
   | some v=>rfl
  ·intro hk;obtain ⟨v,hv⟩:=Option.isSome_iff_exists.1 hk;obtain ⟨x,hx,hkx,_⟩:=(hL.2 (Kz k) (Q7 v)).2 (by simp [hv]);exact List.mem_map.2 ⟨x,hx,by unfold Zs;rw [hkx,Dk]⟩
 have h2:(Uw D j).length<=(D.nodes.map Zs).length:=z2m h1.nodup fun k hk=>(mem k).2 (h1.is k hk).1;refine ⟨by omega,fun e=>?_⟩;have hu:=hL.1.uniqK;have ho:=Vj hL.1.ok _ (.inl rfl) hs.1 hs.2;obtain ⟨u1,u2⟩:=K6 D.least ho.2.1 ho.2.2.2;have h3:(D.nodes.map Zs).length<=(Uw D j).length:=z2m hu fun k hk=>h1.all k ((mem k).1 hk) (by rw [e,u1];exact Bi _ _);omega
theorem y7j:Xb 0=0:=by unfold Xb;rw [Nat.zero_mod];exact M6
theorem x8c:Value.int .u32 0=Value.int .u32 (Xb 0:Nat):=by rw [y7j];rfl
theorem y1l:Xb 4294967296=0:=by unfold Xb;rw [Nat.mod_self];exact M6
def z2b(s:Nat)(cv:Value):Nat:=match cv with|.int _ n=>if n=0 then 0 else s-Y1 n.toNat / Z8 s|_=>0
theorem y1y(s:Nat):z2b s (.int .u32 0)=0:=by simp [z2b]
theorem z7v(s c:Nat)(h:c≠0):z2b s (.int .u32 c)=s-Y1 c / Z8 s:=by
 unfold z2b;simp only;rw [if_neg (by omega),Int.toNat_natCast]
section
variable {S:Nat->Prop} {p seed:Nat} {D:Dc} {w:World} {m:ByteArray->Option Addr}
theorem y3r(h:Rep tyP w p S seed D)(hL:Like tyP seed D (fun k=>(m k).map Q7))(hn:D.n<=500)(hs:D.shape.small)(j:Nat)(hj:j<D.least)(hE:Env w) :
 Calls Tryz.prog 72 #[.pointer (some ⟨p,0,none⟩),.int .u32 (Xb (j*Z8 D.least))] w fun e w' =>
  ∃ u,e=.returned (.tuple #[u,.int .u32 (Xb ((j+1)*Z8 D.least))])/\Own9 w' w.heap.size u (Py D (j*Z8 D.least))/\Bl w w':=by
 have ho:=Vj hL.1.ok _ (.inl rfl) hs.1 hs.2;obtain ⟨u1,u2⟩:=K6 D.least ho.2.1 ho.2.2.2
 have h3:j*Z8 D.least<4294967296:=by
  rw [<- u1];exact Nat.mul_lt_mul_of_pos_right hj (by omega)
 obtain ⟨x1,x2⟩:=z7l D.least _ ho.2.1 h3 (Nat.mul_mod_left _ _)
 have:=x5p h hL.1.ok hn hs.1 hs.2 (Xb (j*Z8 D.least)) (y7k _) hE
 rw [x1,Aa _ h3] at this;rw [Nat.add_mul,Nat.one_mul];exact this
theorem z7n(s j:Nat)(hs:isS (s:Int)=true)(hj:j<=s)(h0:0<j):(j=s/\Xb (j*Z8 s)=0)\/(j<s/\Xb (j*Z8 s)≠0/\Y1 (Xb (j*Z8 s)) / Z8 s=j):=by
 obtain ⟨u,hu,h1,h2⟩:=Q9 s hs;rw [hu];rcases Nat.lt_or_ge j s with h|h
 ·have h3:j*u<4294967296:=by rw [<- h1];exact Nat.mul_lt_mul_of_pos_right h h2
  have h4:0<j*u:=Nat.mul_pos h0 h2;refine .inr ⟨h,fun e=>?_,?_⟩
  ·have:=z7m _ e
   omega
  ·rw [Aa _ h3];exact Nat.mul_div_cancel _ h2
 ·obtain rfl:j=s:=by omega
  refine .inl ⟨rfl,?_⟩;rw [h1];exact y1l
theorem Ba(h:Rep tyP w p S seed D)(hL:Like tyP seed D (fun k=>(m k).map Q7))(hn:D.n<=500)(hs:D.shape.small)(hE:Env w) :
 Calls Tryz.prog 45 #[.pointer (some ⟨p,0,none⟩)] w fun e w'=>∃ u,e=.returned u/\Own9 w' w.heap.size u (Uw D D.least)/\Bl w w':=by
 have ho:=Vj hL.1.ok _ (.inl rfl) hs.1 hs.2;have hl4:=Zp ho.2.1;have hls:isS (D.least:Int)=true:=ho.2.1;have hp:0<D.least:=by have:(4:Int)<=(D.least:Int):=hl4.1;omega
 have HSC:=fun W (hb:Bl w W) j hj=>jY (y3r (h.later hb) hL hn hs j hj (hE.below hb));have HLEN:=fun j hj=>(y9i hL hs j hj).1;have HS0:=HSC w (Below.refl _ _) 0 hp;rw [Nat.zero_mul] at HS0;have e0:Uw D 1=Py D 0:=by show []++Py D (0*Z8 D.least)=_;rw [Nat.zero_mul];rfl
 have HFC:=fun j hj h0=>jY (z7n D.least j hls hj h0);have HS0':=HS0.out;have hz:Value.int .u32 (Xb 0:Nat)=Value.int .u32 0:=x8c.symm;rw [hz] at HS0';clear h hL hE HS0 ho hl4;have HS0:=jY HS0';clear HS0' hz
 go_enter Tryz.func45,Tryz.ntmps45
 go_wp2_with fail
 (with_reducible refine HS0.out.mono ?_)
 rintro e w1 ⟨u,rfl,hu,hb1⟩;rw [<- e0] at hu;have HU:=jY hu;have HB1:=jY hb1;clear hu hb1 e0 HS0
 go_upto_region 2 with fail
 go_loopw [3,4] (fun lv cv wr=>∃ j:Nat,0<j/\j<=D.least/\cv=.int .u32 (Xb (j*Z8 D.least))/\Own9 wr w.heap.size lv (Uw D j)/\Bl w wr) (fun _ cv _=>z2b D.least cv)
 case atStart=>exact ⟨1,by omega,by omega,by rw [Nat.one_mul],HU.out,HB1.out⟩
 case round =>
  obtain ⟨j,h0,hj,rfl,hO,hb⟩:=hrel;have HO:=jY hO;have HB:=jY hb;clear hO hb HU HB1;rcases (HFC j hj h0).out with ⟨rfl,hz⟩|⟨hlt,hz,hq⟩
  ·generalize Xb (D.least * Z8 D.least)=c at *;subst hz;clear HFC HSC HLEN;go_wp2;go_ret;exact ⟨_,rfl,HO.out,HB.out⟩
  ·have hm:=z7v D.least _ hz;rw [hq] at hm;have HM:=jY hm;have hSC:=jY (HSC wr HB.out j hlt).out;have hln:((Xb (j*Z8 D.least):Nat):Int)≠0:=by omega
   have hne:(((Xb (j*Z8 D.least):Nat):Int) != 0)=true:=by simpa using hln
   have hlen:=HLEN (j+1) (by omega);have hsc:Uw D (j+1)=Uw D j++Py D (j*Z8 D.least):=rfl;rw [hsc,lAh] at hlen;have HNX:=jY (HFC (j+1) (by omega) (by omega)).out;generalize Xb (j * Z8 D.least)=c at *;clear hm hq HSC HFC HLEN hln hsc;go_wp2_with fail
   (with_reducible refine hSC.out.mono ?_)
   rintro e w3 ⟨uu,rfl,hu3,hb3⟩;have hO3:=HO.out.below hb3;have hz3:=hb3.size;have hzr:=HB.out.size;obtain ⟨v5,w5,hrun,hO5,hg5⟩:=hO3.join hu3 (by omega) (by omega);have hb5:Bl w w5:=(HB.out.trans (hb3.mono HB.out.size)).grown hg5 (by omega) (fun k e=>(World.ownsRow.lt hO3 k e).1);have HO5:=jY hO5;have HB5:=jY hb5;clear hO3 hu3 hb3 hO5 hg5 hb5 hSC HO
   go_wp2_with (at_builtin;refine Zw rfl _ _ 40 40 rfl rfl rfl hrun ?_)
   refine ⟨⟨j+1,by omega,by omega,rfl,HO5.out,HB5.out⟩,?_⟩;rw [HM.out];rcases HNX.out with ⟨h1,h2⟩|⟨h1,h2,h3⟩
   ·rw [h2];show z2b D.least (.int .u32 0)<_;rw [y1y];omega
   ·rw [z7v _ _ h2,h3];omega
end
end Go.Proofs.YtcklcmafohlflaaGreatDoor.Dc.Dt

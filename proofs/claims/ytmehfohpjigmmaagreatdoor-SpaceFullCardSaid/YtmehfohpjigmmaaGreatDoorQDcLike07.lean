/- Texts of one kind in one: DcLike, DcIs. -/
import Derived.Test.YtmehfohpjigmmaaGreatDoorQDcDoes06
set_option maxRecDepth 200000
set_option maxHeartbeats 8000000
namespace Go.Proofs.YtmehfohpjigmmaaGreatDoor.Dc
open Zc
open Go.RowKit Go.Shelf
section
variable {T:Ty} {seed:Nat} {D:Dc}
theorem Gt{r:List Nd}{i:Nat}{y:Nd}(h:r[i]?=some y):r=r.take i++y :: r.drop (i+1):=by
 obtain ⟨hi,rfl⟩:=List.getElem?_eq_some_iff.1 h;rw [<- List.drop_eq_getElem_cons hi,List.take_append_drop]
theorem z8v{r:List Nd}{i:Nat}{y:Nd}(v:Value)(h:r[i]?=some y):Uw i v r=r.take i++{ y with v:=v } :: r.drop (i+1):=by
 unfold Uw;rw [h];simp only;exact List.set_eq_take_append_cons_drop.trans (by rw [if_pos (List.getElem?_eq_some_iff.1 h).1])
theorem Inv.add(h:Inv T seed D)(x:Nd)(hx:x.fine T)(hs:x.sum=Zi seed x.key.data.toList)(hn:∀ y∈D.nodes,y.key≠x.key):Inv T seed (D.add x)/\(D.add x).nodes.Perm (x :: D.nodes)/\(D.add x).n=D.n+1:=by
 have hal:=Zm h.ok.a
 have fin:∀ D':Dc,D'.nodes.Perm (x :: D.nodes)->D'.Ok T->(∀ (i:Nat) r,D'.a[i]?=some r->∀ x∈r,x.sum % D'.a.length=i)->(∀ (i:Nat) r,D'.b[i]?=some r->∀ x∈r,x.sum % D'.b.length=i)->Inv T seed D':=fun D' h1 ok pa pb=>by
  refine ⟨ok,fun y hy=>?_,pa,pb,(h1.map Nd.key).nodup_iff.2 ?_⟩
  ·rcases List.mem_cons.1 (h1.mem_iff.1 hy) with rfl|h2
   ·exact hs
   ·exact h.sum y h2
  ·rw [List.map_cons,List.nodup_cons];refine ⟨fun h2=>?_,h.uniq⟩;obtain ⟨y,h3,h4⟩:=List.mem_map.1 h2;exact hn y h3 h4
 by_cases hb:D.b=[]
 ·have hd:D.add x={ D with a:=X4 D.a x,n:=D.n+1 }:=by unfold Dc.add;rw [if_pos hb]
  have hp:(D.add x).nodes.Perm (x :: D.nodes):=by
   rw [hd];unfold Dc.nodes;exact (Mv D.a x (by omega)).append_right _
  refine ⟨fin _ hp ?_ ?_ ?_,hp,by rw [hd]⟩
  ·rw [hd];have ht:=O6 D.a x (by omega);have hn:=h.ok.n;refine ⟨by rw [Y7];exact h.ok.a,h.ok.b,fun e=>by simp only [Y7];exact h.ok.place e,h.ok.still,fun i hi=>?_,?_,fun r hr y hy=>?_⟩
   ·have hi':i<D.place:=hi;rw [h.ok.still hb] at hi';omega
   ·show D.n+1=(X4 D.a x).flatten.length+D.b.flatten.length;omega
   ·rcases hr with hr|hr
    ·exact Mu D.a x hx (fun r hr=>h.ok.fine r (.inl hr)) r hr y hy
    ·exact h.ok.fine r (.inr hr) y hy
  ·rw [hd];exact Qk D.a x h.pa
  ·rw [hd];exact h.pb
 ·have hd:D.add x={ D with b:=X4 D.b x,n:=D.n+1 }:=by unfold Dc.add;rw [if_neg hb]
  have hbl:=Zm (h.ok.b hb);have hne:X4 D.b x≠[]:=fun e=>hb (List.eq_nil_of_length_eq_zero (by have:=congrArg List.length e;rw [Y7] at this;simpa using this))
  have hp:(D.add x).nodes.Perm (x :: D.nodes):=by
   rw [hd];unfold Dc.nodes;exact ((Mv D.b x (by omega)).append_left _).trans List.perm_middle
  refine ⟨fin _ hp ?_ ?_ ?_,hp,by rw [hd]⟩
  ·rw [hd];have ht:=O6 D.b x (by omega);have hn:=h.ok.n;refine ⟨h.ok.a,fun _=>by rw [Y7];exact h.ok.b hb,fun _=>h.ok.place hb,fun e=>absurd e hne,h.ok.past,?_,fun r hr y hy=>?_⟩
   ·show D.n+1=D.a.flatten.length+(X4 D.b x).flatten.length;omega
   ·rcases hr with hr|hr
    ·exact h.ok.fine r (.inl hr) y hy
    ·exact Mu D.b x hx (fun r hr=>h.ok.fine r (.inr hr)) r hr y hy
  ·rw [hd];exact h.pa
  ·rw [hd];exact Qk D.b x h.pb
theorem Inv.set(h:Inv T seed D)(key:ByteArray)(v:Value)(hv:T.ok v) :
 Inv T seed (D.setS (Zi seed key.data.toList) key v) /\
  (((D.step 1).hit (Zi seed key.data.toList) key=none/\(∀ x∈D.nodes,x.key≠key)/\(D.setS (Zi seed key.data.toList) key v).nodes.Perm (⟨Zi seed key.data.toList,key,v⟩ :: D.nodes)/\(D.setS (Zi seed key.data.toList) key v).n=D.n+1) \/
   (∃ ji y rest,(D.step 1).hit (Zi seed key.data.toList) key=some ji/\y.key=key/\D.nodes.Perm (y :: rest)/\(D.setS (Zi seed key.data.toList) key v).nodes.Perm ({ y with v:=v } :: rest)/\(D.setS (Zi seed key.data.toList) key v).n=D.n)):=by
 obtain ⟨h1,p1⟩:=h.step 1;have hn1:=(Vi h.ok 1).2;unfold Dc.setS
 cases hh:(D.step 1).hit (Zi seed key.data.toList) key with
 | none =>
   simp only;have hno:=h1.hit_none hh;have h2:=h1.grown;have hg:=Jj h1.ok;have hnd:(D.step 1).grown.nodes=(D.step 1).nodes:=Cc;obtain ⟨h3,p3,n3⟩:=h2.add ⟨Zi seed key.data.toList,key,v⟩ ⟨Mc _ _,hv⟩ rfl (fun y hy=>hno y (by rw [<- hnd];exact hy));refine ⟨h3,.inl ⟨trivial,fun x hx=>hno x (p1.mem_iff.2 hx),?_,by rw [n3,hg.2,hn1]⟩⟩;rw [hnd] at p3;exact p3.trans (p1.cons _)
 | some ji =>
   obtain ⟨j,i⟩:=ji;simp only;obtain ⟨r,y,hr,hi,_,_,hk,hs⟩:=Jk hh;have hrow:=Gt hi;have hsv:=z8v v hi;have hne:r≠[]:=fun e=>by rw [e] at hi;simp at hi
   have hfr:∀ x∈r,x.fine T:=(Oz hr hi h1.ok).2;have hmem:∀ x∈r.take i,x∈r:=fun x hx=>List.mem_of_mem_take hx;have hmem2:∀ x∈r.drop (i+1),x∈r:=fun x hx=>List.mem_of_mem_drop hx
   obtain ⟨h2,rest,q1,q2⟩:=h1.upd hr hne (Uw i v) (fun x hx=>by
    rw [hsv] at hx;rcases List.mem_append.1 hx with h3|h3
    ·exact ⟨⟨x,hmem x h3,rfl,rfl⟩,(hfr x (hmem x h3)).2⟩
    ·rcases List.mem_cons.1 h3 with rfl|h4
     ·exact ⟨⟨y,List.mem_of_getElem? hi,rfl,rfl⟩,hv⟩
     ·exact ⟨⟨x,hmem2 x h4,rfl,rfl⟩,(hfr x (hmem2 x h4)).2⟩) (by
    have:(Uw i v r).map Nd.key=r.map Nd.key:=by
     rw [hsv]
     conv=>rhs;rw [hrow]
     simp
    rw [this]
    exact List.Sublist.refl _) (D.step 1).n (by rw [I0])
   have hd:({ (D.step 1).upd (Zi seed key.data.toList) j (Uw i v) with n:=(D.step 1).n }:Dc)=(D.step 1).upd (Zi seed key.data.toList) j (Uw i v):=by unfold Dc.upd;split <;> rfl
   rw [hd] at h2;refine ⟨h2,.inr ⟨(j,i),y,r.take i++r.drop (i+1)++rest,rfl,hk,?_,?_,by rw [z9p,hn1]⟩⟩
   ·refine (p1.symm.trans q1).trans ?_;rw [hrow];rw [List.append_assoc,List.append_assoc,List.cons_append];have e1:List.take i (List.take i r++y :: List.drop (i+1) r)=List.take i r:=by rw [<- hrow]
    have e2:List.drop (i+1) (List.take i r++y :: List.drop (i+1) r)=List.drop (i+1) r:=by rw [<- hrow]
    rw [e1,e2];exact List.perm_middle
   ·refine q2.trans ?_;rw [hsv,List.append_assoc,List.append_assoc,List.cons_append];exact List.perm_middle
theorem Inv.del(h:Inv T seed D)(key:ByteArray) :
 Inv T seed (D.delS (Zi seed key.data.toList) key) /\
  (((D.step 1).hit (Zi seed key.data.toList) key=none/\(∀ x∈D.nodes,x.key≠key)/\(D.delS (Zi seed key.data.toList) key).nodes.Perm D.nodes/\(D.delS (Zi seed key.data.toList) key).n=D.n) \/
   (∃ ji y rest,(D.step 1).hit (Zi seed key.data.toList) key=some ji/\y.key=key/\D.nodes.Perm (y :: rest)/\(D.delS (Zi seed key.data.toList) key).nodes.Perm rest/\(D.delS (Zi seed key.data.toList) key).n+1=D.n)):=by
 obtain ⟨h1,p1⟩:=h.step 1;have hn1:=(Vi h.ok 1).2;unfold Dc.delS
 cases hh:(D.step 1).hit (Zi seed key.data.toList) key with
 | none =>
   have hno:=h1.hit_none hh;exact ⟨h1,.inl ⟨rfl,fun x hx=>hno x (p1.mem_iff.2 hx),p1,hn1⟩⟩
 | some ji =>
   obtain ⟨j,i⟩:=ji;simp only;obtain ⟨r,y,hr,hi,_,_,hk,hs⟩:=Jk hh;have hrow:=Gt hi;have hsv:=List.eraseIdx_eq_take_drop_succ r i;have hil:=(List.getElem?_eq_some_iff.1 hi).1;have hne:r≠[]:=fun e=>by rw [e] at hi;simp at hi
   have hfr:∀ x∈r,x.fine T:=(Oz hr hi h1.ok).2;have hel:(r.eraseIdx i).length=r.length-1:=by rw [List.length_eraseIdx,if_pos hil]
   have hpos:0<(D.step 1).n:=by
    have h3:=X5 (D:=D.step 1) _ j r hr;have h5:=h1.ok.n;omega
   obtain ⟨h2,rest,q1,q2⟩:=h1.upd hr hne (·.eraseIdx i) (fun x hx=>by
    have hx':x∈r:=(List.eraseIdx_sublist r i).subset hx
    exact ⟨⟨x,hx',rfl,rfl⟩,(hfr x hx').2⟩) ((List.eraseIdx_sublist r i).map Nd.key) ((D.step 1).n-1) (by simp only [hel];omega)
   have hd:({ (D.step 1).upd (Zi seed key.data.toList) j (·.eraseIdx i) with n:=(D.step 1).n-1 }:Dc)=((D.step 1).upd (Zi seed key.data.toList) j (·.eraseIdx i)).less:=by unfold Dc.less;rw [z9p]
   rw [hd] at h2;have hsn:∀ D':Dc,D'.shrunk.n=D'.n:=fun D'=>by unfold Dc.shrunk;split <;> rfl
   refine ⟨h2.shrunk,.inr ⟨(j,i),y,r.take i++r.drop (i+1)++rest,rfl,hk,?_,?_,?_⟩⟩
   ·refine (p1.symm.trans q1).trans ?_
    have e1:r++rest=r.take i++(y :: (r.drop (i+1)++rest)):=by
     conv=>lhs;rw [hrow]
     simp
    rw [e1,List.append_assoc];exact List.perm_middle
   ·rw [Dl]
    have:(((D.step 1).upd (Zi seed key.data.toList) j (·.eraseIdx i)).less).nodes=((D.step 1).upd (Zi seed key.data.toList) j (·.eraseIdx i)).nodes:=rfl
    rw [this,<- hsv];exact q2
   ·rw [hsn];show (((D.step 1).upd (Zi seed key.data.toList) j (·.eraseIdx i)).n-1)+1=D.n;rw [z9p];omega
def Like(T:Ty)(seed:Nat)(D:Dc)(m:ByteArray->Option Value):Prop:=Inv T seed D/\∀ k v,(∃ x∈D.nodes,x.key=k/\x.v=v)↔m k=some v
def z0z(m:ByteArray->Option Value)(key:ByteArray)(v:Value):ByteArray->Option Value:=fun k=>if k=key then some v else m k
def z8n(m:ByteArray->Option Value)(key:ByteArray):ByteArray->Option Value:=fun k=>if k=key then none else m k
theorem Like.of_perm{D':Dc}{m:ByteArray->Option Value}(h:Like T seed D m)(h':Inv T seed D')(hp:D'.nodes.Perm D.nodes):Like T seed D' m :=
 ⟨h',fun k v=>(by rw [<- h.2 k v];exact ⟨fun ⟨x,h1,h2⟩=>⟨x,hp.mem_iff.1 h1,h2⟩,fun ⟨x,h1,h2⟩=>⟨x,hp.mem_iff.2 h1,h2⟩⟩)⟩
theorem Like.step{m:ByteArray->Option Value}(h:Like T seed D m)(n:Nat):Like T seed (D.step n) m:=h.of_perm (h.1.step n).1 (h.1.step n).2
theorem Like.hit{m:ByteArray->Option Value}(h:Like T seed D m)(key:ByteArray):(D.hit (Zi seed key.data.toList) key).isSome=(m key).isSome/\(∀ y,D.node (Zi seed key.data.toList) key=some y->m key=some y.v)/\((m key)=none->D.node (Zi seed key.data.toList) key=none)/\((m key).isSome=true->∃ y,D.node (Zi seed key.data.toList) key=some y):=by
 cases hh:D.hit (Zi seed key.data.toList) key with
 | none =>
   have hno:=h.1.hit_none hh
   have hm:m key=none:=by
    cases hm:m key with
    | none=>rfl
    | some v =>
      obtain ⟨x,h1,h2,_⟩:=(h.2 key v).2 hm;exact absurd h2 (hno x h1)
   have hnd:D.node (Zi seed key.data.toList) key=none:=by unfold Dc.node;rw [hh]
   rw [hm,hnd];refine ⟨rfl,?_,?_,?_⟩
   ·intro y e;cases e
   ·intro _;rfl
   ·intro e;cases e
 | some ji =>
   obtain ⟨j,i⟩:=ji;obtain ⟨r,y,_,_,hnd,hy,hk,_⟩:=Jk hh;have hm:=(h.2 key y.v).1 ⟨y,hy,hk,rfl⟩;rw [hm,hnd];refine ⟨rfl,?_,?_,?_⟩
   ·intro y' e;cases e;rfl
   ·intro e;cases e
   ·intro _;exact ⟨y,rfl⟩
theorem Like.set{m:ByteArray->Option Value}(h:Like T seed D m)(key:ByteArray)(v:Value)(hv:T.ok v):Like T seed (D.setS (Zi seed key.data.toList) key v) (z0z m key v)/\(D.setS (Zi seed key.data.toList) key v).n=if (m key).isSome then D.n else D.n+1:=by
 obtain ⟨h1,h2⟩:=h.1.set key v hv;have h3:=((h.step 1).hit key).1;rcases h2 with ⟨e1,hno,hp,hn⟩|⟨ji,y,rest,e1,hk,p1,p2,hn⟩
 ·rw [e1] at h3;refine ⟨⟨h1,fun k v'=>?_⟩,by rw [hn,<- h3];rfl⟩;unfold z0z
  by_cases hkk:k=key
  ·rw [if_pos hkk];subst hkk
   constructor
   ·rintro ⟨x,hx,hx2,hx3⟩;rcases List.mem_cons.1 (hp.mem_iff.1 hx) with rfl|h4
    ·rw [<- hx3]
    ·exact absurd hx2 (hno x h4)
   ·intro e
    cases e
    exact ⟨_,hp.mem_iff.2 (List.mem_cons_self ..),rfl,rfl⟩
  ·rw [if_neg hkk,<- h.2 k v']
   constructor
   ·rintro ⟨x,hx,hx2,hx3⟩;rcases List.mem_cons.1 (hp.mem_iff.1 hx) with rfl|h4
    ·exact absurd hx2.symm hkk
    ·exact ⟨x,h4,hx2,hx3⟩
   ·rintro ⟨x,hx,hx2⟩;exact ⟨x,hp.mem_iff.2 (List.mem_cons_of_mem _ hx),hx2⟩
 ·rw [e1] at h3;refine ⟨⟨h1,fun k v'=>?_⟩,by rw [hn,<- h3];rfl⟩;have hu:=(p1.map Nd.key).nodup_iff.1 h.1.uniq;rw [List.map_cons,List.nodup_cons] at hu;have hrest:∀ x∈rest,x.key≠key:=fun x hx e=>hu.1 (by rw [hk,<- e];exact List.mem_map.2 ⟨x,hx,rfl⟩);unfold z0z
  by_cases hkk:k=key
  ·rw [if_pos hkk];subst hkk
   constructor
   ·rintro ⟨x,hx,hx2,hx3⟩;rcases List.mem_cons.1 (p2.mem_iff.1 hx) with rfl|h4
    ·rw [<- hx3]
    ·exact absurd hx2 (hrest x h4)
   ·intro e
    cases e
    exact ⟨_,p2.mem_iff.2 (List.mem_cons_self ..),hk,rfl⟩
  ·rw [if_neg hkk,<- h.2 k v']
   constructor
   ·rintro ⟨x,hx,hx2,hx3⟩;rcases List.mem_cons.1 (p2.mem_iff.1 hx) with rfl|h4
    ·exact absurd (hx2.symm.trans hk) hkk
    ·exact ⟨x,p1.mem_iff.2 (List.mem_cons_of_mem _ h4),hx2,hx3⟩
   ·rintro ⟨x,hx,hx2,hx3⟩;rcases List.mem_cons.1 (p1.mem_iff.1 hx) with rfl|h4
    ·exact absurd (hx2.symm.trans hk) hkk
    ·exact ⟨x,p2.mem_iff.2 (List.mem_cons_of_mem _ h4),hx2,hx3⟩
theorem Like.del{m:ByteArray->Option Value}(h:Like T seed D m)(key:ByteArray):Like T seed (D.delS (Zi seed key.data.toList) key) (z8n m key)/\(D.delS (Zi seed key.data.toList) key).n=(if (m key).isSome then D.n-1 else D.n)/\((m key).isSome=true->0<D.n):=by
 obtain ⟨h1,h2⟩:=h.1.del key;have h3:=((h.step 1).hit key).1;rcases h2 with ⟨e1,hno,hp,hn⟩|⟨ji,y,rest,e1,hk,p1,p2,hn⟩
 ·rw [e1] at h3;have h3':(m key).isSome=false:=h3.symm;refine ⟨⟨h1,fun k v'=>?_⟩,by rw [hn,h3'];rfl,fun e=>by rw [h3'] at e;cases e⟩;unfold z8n
  by_cases hkk:k=key
  ·rw [if_pos hkk];subst hkk
   constructor
   ·rintro ⟨x,hx,hx2,hx3⟩;exact absurd hx2 (hno x (hp.mem_iff.1 hx))
   ·intro e;cases e
  ·rw [if_neg hkk,<- h.2 k v'];exact ⟨fun ⟨x,h1,h2⟩=>⟨x,hp.mem_iff.1 h1,h2⟩,fun ⟨x,h1,h2⟩=>⟨x,hp.mem_iff.2 h1,h2⟩⟩
 ·rw [e1] at h3;have h3':(m key).isSome=true:=h3.symm;refine ⟨⟨h1,fun k v'=>?_⟩,by rw [h3',if_pos rfl];omega,fun _=>by omega⟩;have hu:=(p1.map Nd.key).nodup_iff.1 h.1.uniq;rw [List.map_cons,List.nodup_cons] at hu;have hrest:∀ x∈rest,x.key≠key:=fun x hx e=>hu.1 (by rw [hk,<- e];exact List.mem_map.2 ⟨x,hx,rfl⟩);unfold z8n
  by_cases hkk:k=key
  ·rw [if_pos hkk];subst hkk
   constructor
   ·rintro ⟨x,hx,hx2,hx3⟩;exact absurd hx2 (hrest x (p2.mem_iff.1 hx))
   ·intro e;cases e
  ·rw [if_neg hkk,<- h.2 k v']
   constructor
   ·rintro ⟨x,hx,hx2⟩;exact ⟨x,p1.mem_iff.2 (List.mem_cons_of_mem _ (p2.mem_iff.1 hx)),hx2⟩
   ·rintro ⟨x,hx,hx2,hx3⟩;rcases List.mem_cons.1 (p1.mem_iff.1 hx) with rfl|h4
    ·exact absurd (hx2.symm.trans hk) hkk
    ·exact ⟨x,p2.mem_iff.2 h4,hx2,hx3⟩
theorem Like.new(T:Ty)(seed:Nat):Like T seed Mq (fun _=>none):=by
 have hn:Mq.nodes=[]:=by decide
 refine ⟨⟨y1e T,fun x hx=>?_,fun i r hr x hx=>?_,fun i r hr x hx=>?_,?_⟩,fun k v=>⟨fun ⟨x,hx,_⟩=>?_,fun e=>by cases e⟩⟩
 ·rw [hn] at hx;simp at hx
 ·have:=List.mem_of_getElem? hr
  rw [List.eq_of_mem_replicate this] at hx;simp at hx
 ·simp [Mq] at hr
 ·rw [hn];simp
 ·rw [hn] at hx;simp at hx
end
end Go.Proofs.YtmehfohpjigmmaaGreatDoor.Dc
namespace Go.Proofs.YtmehfohpjigmmaaGreatDoor.Dc
open Zc
open Go.RowKit Go.Shelf
attribute [local go_sem] Oper.semAt_some
structure Sh where
 A:Nat
 B:Nat
 At:Nat
 n:Nat
def Dc.shape(D:Dc):Sh:=⟨D.a.length,D.b.length,D.place,D.n⟩
def Sh.step1(h:Sh):Sh:=if h.B=0 then h else if h.At+1=h.A then ⟨h.B,0,0,h.n⟩ else ⟨h.A,h.B,h.At+1,h.n⟩
def Sh.steps:Nat->Sh->Sh
 | 0,h=>h
 | k+1,h=>(Sh.steps k h).step1
def Sh.grown(h:Sh):Sh:=if h.B=0/\h.A<=h.n/\h.A<65536 then ⟨h.A,Zg (2*h.n:Nat),h.At,h.n⟩ else h
def Sh.shrunk(h:Sh):Sh:=if h.B=0/\4<h.A/\8*h.n<h.A then ⟨h.A,Zg h.n,h.At,h.n⟩ else h
def Sh.more(h:Sh):Sh:=⟨h.A,h.B,h.At,h.n+1⟩
def Sh.fewer(h:Sh):Sh:=⟨h.A,h.B,h.At,h.n-1⟩
def Sh.set(h:Sh)(is:Bool):Sh:=bif is then h.step1 else h.step1.grown.more
def Sh.del(h:Sh)(is:Bool):Sh:=bif is then h.step1.fewer.shrunk else h.step1
theorem Dr(D:Dc):D.b=[]↔D.b.length=0:=⟨fun e=>by rw [e];rfl,List.eq_nil_of_length_eq_zero⟩
theorem Bi{D:Dc}(hb:D.b≠[]):D.move1.shape=D.shape.step1:=by
 have h0:¬ D.b.length=0:=fun e=>hb ((Dr D).2 e);unfold Dc.move1 Sh.step1 Dc.shape;rw [if_neg h0]
 by_cases h1:D.place+1=D.a.length
 ·rw [if_pos h1,if_pos h1,Y3];rfl
 ·rw [if_neg h1,if_neg h1,List.length_set,Y3]
theorem Kj{h:Sh}(hb:h.B=0):∀ k,Sh.steps k h=h
 | 0=>rfl
 | k+1=>by rw [Sh.steps,Kj hb k,Sh.step1,if_pos hb]
theorem Pd{T:Ty}{D:Dc}(ok:D.Ok T):∀ k,k<=D.left->(Dc.run k D).shape=Sh.steps k D.shape
 | 0,_=>rfl
 | k+1,hk=>by
   obtain ⟨_,_,_,h4⟩:=Vj ok k (by omega);obtain ⟨h5,_⟩:=h4 (by omega);show (Dc.run k D).move1.shape=_;rw [Bi h5,Pd ok k (by omega)];rfl
theorem Gu(h:Sh)(k:Nat):∀ j,Sh.steps (k+j) h=Sh.steps j (Sh.steps k h)
 | 0=>rfl
 | j+1=>by rw [<- Nat.add_assoc,Sh.steps,Gu h k j];rfl
theorem Ux{T:Ty}{D:Dc}(ok:D.Ok T)(n:Nat):(D.step n).shape=Sh.steps n D.shape:=by
 unfold Dc.step;rcases Nat.le_total n D.left with h|h
 ·rw [Nat.min_eq_left h];exact Pd ok n h
 ·rw [Nat.min_eq_right h,Pd ok _ (Nat.le_refl _)];obtain ⟨j,rfl⟩:∃ j,n=D.left+j:=⟨n-D.left,by omega⟩;rw [Gu];refine (Kj ?_ j).symm;rw [<- Pd ok _ (Nat.le_refl _)];obtain ⟨ok1,h2,_⟩:=Vj ok _ (Nat.le_refl _);have h3:(Dc.run D.left D).left=0:=by omega
  show (Dc.run D.left D).b.length=0;generalize Dc.run D.left D=D' at *
  by_cases hb:D'.b=[]
  ·rw [hb];rfl
  ·have:=ok1.place hb
   have h4:D'.left=D'.a.length-D'.place:=by unfold Dc.left;rw [if_neg hb]
   omega
theorem Bh(D:Dc):D.grown.shape=D.shape.grown:=by
 unfold Dc.grown Sh.grown Dc.shape
 by_cases h:D.b=[]/\D.a.length<=D.n/\D.a.length<65536
 ·rw [if_pos h,if_pos ⟨(Dr D).1 h.1,h.2⟩];simp [Dc.begin]
 ·rw [if_neg h,if_neg (fun e=>h ⟨(Dr D).2 e.1,e.2⟩)]
theorem Dk(D:Dc):D.shrunk.shape=D.shape.shrunk:=by
 unfold Dc.shrunk Sh.shrunk Dc.shape
 by_cases h:D.b=[]/\4<D.a.length/\8*D.n<D.a.length
 ·rw [if_pos h,if_pos ⟨(Dr D).1 h.1,h.2⟩];simp [Dc.begin]
 ·rw [if_neg h,if_neg (fun e=>h ⟨(Dr D).2 e.1,e.2⟩)]
theorem Gq(D:Dc)(s j:Nat)(f:List Nd->List Nd):(D.upd s j f).shape=D.shape:=by
 unfold Dc.upd Dc.shape
 split <;> simp
theorem z4w(D:Dc)(x:Nd):(D.add x).shape=D.shape.more:=by
 unfold Dc.add Dc.shape Sh.more
 split <;> simp [Y7]
theorem Gp{T:Ty}{D:Dc}(ok:D.Ok T)(s:Nat)(key:ByteArray)(v:Value):(D.setS s key v).shape=D.shape.set ((D.step 1).hit s key).isSome:=by
 have h1:=Ux ok 1;have h2:(D.step 1).shape=D.shape.step1:=h1;unfold Dc.setS
 cases (D.step 1).hit s key with
 | none=>simp only [z4w,Bh,h2];rfl
 | some ji=>simp only [Gq,h2];rfl
theorem z4x{T:Ty}{D:Dc}(ok:D.Ok T)(s:Nat)(key:ByteArray):(D.delS s key).shape=D.shape.del ((D.step 1).hit s key).isSome:=by
 have h1:=Ux ok 1;have h2:(D.step 1).shape=D.shape.step1:=h1;unfold Dc.delS
 cases (D.step 1).hit s key with
 | none=>simp only [h2];rfl
 | some ji =>
   simp only [Dk]
   have:(((D.step 1).upd s ji.1 (·.eraseIdx ji.2)).less).shape=(D.step 1).shape.fewer:=by
    have h3:=Gq (D.step 1) s ji.1 (·.eraseIdx ji.2);unfold Dc.shape at h3;unfold Dc.less Dc.shape Sh.fewer
    injection h3 with e1 e2 e3 e4
    simp only [e1,e2,e3,e4]
   rw [this,h2];rfl
theorem Mb(h:Sh):h.step1.n=h.n:=by unfold Sh.step1;split;rfl;split <;> rfl
theorem z4y(h:Sh):h.grown.n=h.n:=by unfold Sh.grown;split <;> rfl
theorem z1l(h:Sh):h.shrunk.n=h.n:=by unfold Sh.shrunk;split <;> rfl
theorem z2x(h:Sh)(is:Bool):(h.set is).n=bif is then h.n else h.n+1:=by
 cases is with
 | true=>exact Mb h
 | false=>show h.step1.grown.n+1=h.n+1;rw [z4y,Mb]
theorem y1t(h:Sh)(is:Bool):(h.del is).n=bif is then h.n-1 else h.n:=by
 cases is with
 | true=>show h.step1.fewer.shrunk.n=h.n-1;rw [z1l];show h.step1.n-1=_;rw [Mb]
 | false=>exact Mb h
def Is(W:World)(p:Nat)(S:Nat->Prop)(seed:Nat)(m:ByteArray->Option Int)(n:Sh):Prop :=
 ∃ D,Rep tyI W p S seed D/\Like tyI seed D (fun k=>(m k).map (Value.int .i64))/\D.shape=n
def Il(m:ByteArray->Option Int)(key:ByteArray)(v:Int):ByteArray->Option Int:=fun k=>if k=key then some v else m k
def IsNow(S:Nat->Prop)(W:World)(p seed:Nat)(m:ByteArray->Option Int)(n:Sh)(W':World):Prop:=Is W' p (Xe tyI S W W') seed m n/\Far S W W'
theorem Is.far{S S1:Nat->Prop}{W W':World}{p seed:Nat}{n:Sh}{m:ByteArray->Option Int}(h:Is W p S seed m n)(f:Far S1 W W')(hd:∀ k,S k->¬ S1 k):Is W' p S seed m n:=by
 obtain ⟨D,h1,h2,h3⟩:=h;exact ⟨D,h1.far f hd,h2,h3⟩
theorem Is.later{S:Nat->Prop}{W W':World}{p seed:Nat}{n:Sh}{m:ByteArray->Option Int}(h:Is W p S seed m n)(hb:Bl W W'):Is W' p S seed m n:=h.far (S1:=fun _=>False) (Far.of_below hb) fun _ _ h=>h
theorem Is.cells{S:Nat->Prop}{W:World}{p seed:Nat}{n:Sh}{m:ByteArray->Option Int}(h:Is W p S seed m n):∀ k,S k->CellB tyI W k:=by obtain ⟨D,h1,_⟩:=h;exact h1.cells
theorem Is.lt{S:Nat->Prop}{W:World}{p seed:Nat}{n:Sh}{m:ByteArray->Option Int}(h:Is W p S seed m n):∀ k,S k->k<W.heap.size:=fun k hk=>(h.cells k hk).lt
theorem IsNow.of{S:Nat->Prop}{W W':World}{p seed:Nat}{n:Sh}{m:ByteArray->Option Int}{D:Dc}(h:Went tyI S W p seed D W')(hl:Like tyI seed D (fun k=>(m k).map (Value.int .i64)))(hn:D.shape=n):IsNow S W p seed m n W':=⟨⟨D,h.1,hl,hn⟩,h.2⟩
section
variable {S:Nat->Prop} {p seed:Nat} {n:Sh} {m:ByteArray->Option Int} {w:World}
theorem Fv(m:ByteArray->Option Int)(key:ByteArray)(v:Int):(fun k=>(Il m key v k).map (Value.int .i64))=z0z (fun k=>(m k).map (Value.int .i64)) key (.int .i64 v):=by
 funext k
 unfold Il z0z
 split <;> rfl
theorem z0l(sd:Nat)(w:World):Calls Tryz.prog 143 #[.int .u32 sd] w fun e w'=>∃ q,e=.returned (.pointer (some ⟨q,0,none⟩))/\Is w' q (fresh tyI w w') sd (fun _=>none) ⟨4,0,0,0⟩/\Bl w w' :=
 (V4 sd w).mono fun _ _ ⟨q,h1,h2,h3⟩=>⟨q,h1,⟨Mq,h2,Like.new _ _,rfl⟩,h3⟩
theorem Ar(hsd:seed<4294967296)(h:Is w p S seed m n)(hn:n.n<=1000000)(key:ByteArray)(hk:key.size<=281474976710656) :
 Calls Tryz.prog 282 #[.pointer (some ⟨p,0,none⟩),.string key] w fun e w'=>e=.returned (.tuple #[.int .i64 ((m key).getD 0),.bool (m key).isSome])/\IsNow S w p seed m n.step1 w':=by
 obtain ⟨D,h1,h2,h3⟩:=h;have hn':D.n<=1000000:=by rw [<- h3] at hn;exact hn
 refine (Oo hsd h1 h2.1.ok hn' key hk).mono fun e w' ⟨he,hw⟩=>?_;obtain ⟨q1,q2,q3,q4⟩:=(h2.step 1).hit key;refine ⟨?_,IsNow.of hw (h2.step 1) ((Ux h2.1.ok 1).trans (by rw [h3];rfl))⟩;rw [he,q1]
 congr 2
 cases hm:m key with
 | none =>
   rw [q3 (by simp only [hm];rfl)];rfl
 | some v =>
   obtain ⟨y,hy⟩:=q4 (by simp only [hm];rfl)
   have:=q2 y hy
   simp only [hm,Option.map_some,Option.some.injEq] at this;rw [hy];simp only [Or,<- this];rfl
theorem z1j(hsd:seed<4294967296)(h:Is w p S seed m n)(hn:n.n+1<=1000000)(key:ByteArray)(hk:key.size<=281474976710656)(v:Int) :
 Calls Tryz.prog 157 #[.pointer (some ⟨p,0,none⟩),.string key,.int .i64 v] w fun e w'=>e=.returned (.bool (!(m key).isSome))/\IsNow S w p seed (Il m key v) (n.set (m key).isSome) w':=by
 obtain ⟨D,h1,h2,h3⟩:=h;have hn':D.n+1<=1000000:=by rw [<- h3] at hn;exact hn
 refine (M8 hsd h1 h2.1.ok hn' key hk v).mono fun e w' ⟨he,hw⟩=>?_;obtain ⟨q1,_⟩:=(h2.step 1).hit key;obtain ⟨g1,_⟩:=h2.set key (.int .i64 v) ⟨v,rfl⟩;have g2:=Gp h2.1.ok (Zi seed key.data.toList) key (.int .i64 v);rw [<- Fv] at g1;simp only [Option.isSome_map] at q1;exact ⟨by rw [he,q1],IsNow.of hw g1 (by rw [g2,h3,q1])⟩
end
end Go.Proofs.YtmehfohpjigmmaaGreatDoor.Dc

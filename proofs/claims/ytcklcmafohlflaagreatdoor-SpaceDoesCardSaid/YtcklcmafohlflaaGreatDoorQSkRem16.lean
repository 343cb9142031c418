/- Texts of one kind in one: SkRem, SkCut, SkRowsOf, SkLs, SkRange2. -/
import Derived.Test.YtcklcmafohlflaaGreatDoorQSkSplit15
set_option maxRecDepth 200000
set_option maxHeartbeats 8000000
namespace Go.Proofs.YtcklcmafohlflaaGreatDoor.Sk
open Zc
open Go.RowKit Go.Shelf
def Xz(F:List Nd)(f t:Nat):List Nd:=F.take (f+1)++F.drop (t+1)
variable {F:List Nd} {f t:Nat}
theorem J8(h:f<=t)(ht:t<F.length):(Xz F f t).length+(t-f)=F.length:=by unfold Xz;simp;omega
theorem Bk(ht:t<F.length)(h:f<=t){i:Nat}(hi:i<=f):(Xz F f t)[i]?=F[i]?:=by
 unfold Xz;rw [List.getElem?_append_left (by simp;omega),List.getElem?_take_of_lt (by omega)]
theorem z5v(ht:t<F.length)(h:f<=t){i:Nat}(hi:f<i):(Xz F f t)[i]?=F[i+(t-f)]?:=by
 unfold Xz;rw [List.getElem?_append_right (by simp;omega),List.length_take,Nat.min_eq_left (show f+1<=F.length by omega),List.getElem?_drop]
 congr 1;omega
theorem z5y(ht:t<F.length)(h:f<=t){i:Nat}(hi:i<=f):lev (Xz F f t) i=lev F i:=by unfold lev;rw [Bk ht h hi]
theorem Bn(ht:t<F.length)(h:f<=t){i:Nat}(hi:f<i):lev (Xz F f t) i=lev F (i+(t-f)):=by unfold lev;rw [z5v ht h hi]
theorem Bj(ht:t<F.length)(h:f<=t){i:Nat}(hi:i<=f):adr (Xz F f t) i=adr F i:=by unfold adr;rw [Bk ht h hi]
theorem z5q(ht:t<F.length)(h:f<=t){i:Nat}(hi:f<i):adr (Xz F f t) i=adr F (i+(t-f)):=by unfold adr;rw [z5v ht h hi]
theorem y9c(ht:t<F.length)(h:f<=t){k:Nat}(h0:k<lev F 0):nxt (Xz F f t) k (Zn F k f)+(t-f)=nxt F k (Zn F k t):=by
 have hl:=J8 h ht;obtain ⟨l1,l2,l3⟩:=Yi F k h0 f;obtain ⟨m1,m2,m3⟩:=Yi F k h0 t;have hb:=Oz ht h0;obtain ⟨n1,n2,n3,n4,_⟩:=Yy F k (Zn F k t) (by omega)
 have:nxt (Xz F f t) k (Zn F k f)=nxt F k (Zn F k t)-(t-f):=by
  refine Xt (by omega) (by omega) (by omega) (fun i h1 h2=>?_) (fun hx=>?_)
  ·by_cases e:i<=f
   ·rw [z5y ht h e];exact l3 i h1 e
   ·rw [Bn ht h (by omega)];exact n3 _ (by omega) (by omega)
  ·rw [Bn ht h (by omega),show nxt F k (Zn F k t)-(t-f)+(t-f)=nxt F k (Zn F k t) by omega];exact n4 (by omega)
 omega
theorem y3o(ht:t<F.length)(h:f<=t){k q:Nat}(h0:k<lev F 0)(hq:q<=f)(hkq:k<lev F q)(hne:q≠Zn F k f):nxt (Xz F f t) k q=nxt F k q/\nxt F k q<=f:=by
 have hl:=J8 h ht;obtain ⟨l1,l2,l3⟩:=Yi F k h0 f;obtain ⟨n1,n2,n3,n4,_⟩:=Yy F k q (by omega)
 have hql:q<Zn F k f:=by
  rcases Nat.lt_trichotomy q (Zn F k f) with e|e|e
  ·exact e
  ·exact absurd e hne
  ·have:=l3 q e hq;omega
 have hle:nxt F k q<=Zn F k f:=by
  rcases Nat.lt_or_ge (Zn F k f) (nxt F k q) with e|e
  ·have:=n3 _ hql e;omega
  ·exact e
 refine ⟨Xt (by omega) n1 (by omega) (fun i h1 h2=>?_) (fun _=>?_),by omega⟩
 ·rw [z5y ht h (by omega)];exact n3 i h1 h2
 ·rw [z5y ht h (by omega)];exact n4 (by omega)
theorem y9b(ht:t<F.length)(h:f<=t){k q:Nat}(hq:f<q)(hql:q<(Xz F f t).length):nxt (Xz F f t) k q+(t-f)=nxt F k (q+(t-f)):=by
 have hl:=J8 h ht;obtain ⟨n1,n2,n3,n4,_⟩:=Yy F k (q+(t-f)) (by omega)
 have:nxt (Xz F f t) k q=nxt F k (q+(t-f))-(t-f):=by
  refine Xt hql (by omega) (by omega) (fun i h1 h2=>?_) (fun hx=>?_)
  ·rw [Bn ht h (by omega)];exact n3 _ (by omega) (by omega)
  ·rw [Bn ht h (by omega),show nxt F k (q+(t-f))-(t-f)+(t-f)=nxt F k (q+(t-f)) by omega];exact n4 (by omega)
 omega
def lkC(F:List Nd)(f t k:Nat)(q k':Nat):Value × Int :=
 if k'<k/\q=Zn F k' f then (adr F (nxt F k' (Zn F k' t)),(nxt F k' (Zn F k' t):Int)-q-1-((t:Int)-f)) else lk0 F q k'
theorem x3h(F:List Nd)(f t q k':Nat):lkC F f t 0 q k'=lk0 F q k':=by unfold lkC;rw [if_neg (by omega)]
theorem v1v(F:List Nd)(f t k q:Nat):lkC F f t k q k=lk0 F q k:=by unfold lkC;rw [if_neg (by omega)]
theorem x3g(F:List Nd)(f t k:Nat)(q' k':Nat)(h:q'≠Zn F k f\/k'≠k):lkC F f t (k+1) q' k'=lkC F f t k q' k':=by
 unfold lkC
 by_cases e:k'<k/\q'=Zn F k' f
 ·rw [if_pos e,if_pos ⟨by omega,e.2⟩]
 ·rw [if_neg e,if_neg];rintro ⟨h1,h2⟩
  by_cases e2:k'=k
  ·subst e2;rcases h with h|h
   ·exact h h2
   ·exact h rfl
  ·exact e ⟨by omega,h2⟩
theorem z2f(ht:t<F.length)(h:f<=t)(h32:lev F 0=32){k q:Nat}(hk:k<32)(hq:q<=f)(hkq:k<lev F q):lk0 (Xz F f t) q k=lkC F f t 32 q k:=by
 unfold lkC
 by_cases e:q=Zn F k f
 ·rw [if_pos ⟨hk,e⟩];have h1:=y9c (k:=k) ht h (by omega);rw [<- e] at h1;have hb:=Oz (k:=k) ht (by omega);unfold lk0;rw [z5q ht h (by omega),h1];refine congrArg _ ?_;show ((nxt (Xz F f t) k q:Nat):Int)-q-1=_;omega
 ·rw [if_neg (fun t=>e t.2)];unfold lk0;obtain ⟨e1,e2⟩:=y3o ht h (by omega) hq hkq e;rw [e1,Bj ht h e2]
theorem z2e(ht:t<F.length)(h:f<=t)(h32:lev F 0=32){k q:Nat}(hk:k<32)(hq:f<q)(hql:q<(Xz F f t).length):lk0 (Xz F f t) q k=lkC F f t 32 (q+(t-f)) k:=by
 have h1:=y9b (k:=k) ht h hq hql;have hl:=J8 h ht;have n1:=(Yy (Xz F f t) k q hql).1;have hle:=(Yi F k (by omega) f).1;unfold lkC;rw [if_neg (fun t=>by omega)];unfold lk0;rw [z5q ht h (by omega),h1];refine congrArg _ ?_;show ((nxt (Xz F f t) k q:Nat):Int)-q-1=(nxt F k (q+(t-f)):Int)-((q+(t-f):Nat):Int)-1;omega
variable {W:World} {lk:Nat->Nat->Value × Int} {ah:Nat->Value} {n:Int}
theorem z3a(h:Sk W F lk ah n)(ht:t<F.length)(hf:f<=t)(lk':Nat->Nat->Value × Int)(ah':Nat->Value)
 (h1:∀ q k,q<=f->k<lev F q->lk' q k=lk q k) (h2:∀ q k,f<q->q<(Xz F f t).length->k<lev F (q+(t-f))->lk' q k=lk (q+(t-f)) k) (h3:∀ q,q<=f->ah' q=ah q) (h4:∀ q,f<q->q<(Xz F f t).length->ah' q=ah (q+(t-f))):Sk W (Xz F f t) lk' ah' n:=by
 have part:∀ (q:Nat) (y:Nd),(Xz F f t)[q]?=some y->(q<=f/\F[q]?=some y)\/(f<q/\q<(Xz F f t).length/\F[q+(t-f)]?=some y):=fun q y hy=>by
  have hl:=(lAb.1 hy).1;rcases Nat.lt_or_ge f q with e|e
  ·rw [z5v ht hf e] at hy;exact .inr ⟨e,hl,hy⟩
  ·rw [Bk ht hf e] at hy;exact .inl ⟨e,hy⟩
 refine ⟨fun q y hy=>?_,fun q q' y y' hy hy' hb=>?_,fun q y hy=>?_⟩
 ·rcases part q y hy with ⟨e,hz⟩|⟨e,hl,hz⟩
  ·obtain ⟨A,hA,hN⟩:=h.node q y hz;refine ⟨A,hA,hN.size,hN.m,hN.s,by rw [h3 q e];exact hN.a,fun k hk=>?_,hN.n⟩;rw [h1 q k e (by rw [X8 hz];exact hk)];exact hN.link k hk
  ·obtain ⟨A,hA,hN⟩:=h.node _ y hz;refine ⟨A,by unfold tyq at hA ⊢;rw [if_neg (by omega)] at hA ⊢;exact hA,by have:=hN.size;unfold szq at this ⊢;rw [if_neg (by omega)] at this ⊢;exact this,hN.m,hN.s,by rw [h4 q e hl];exact hN.a,fun k hk=>?_,fun e2=>by omega⟩;rw [h2 q k e hl (by rw [X8 hz];exact hk)];exact hN.link k hk
 ·rcases part q y hy with ⟨e,hz⟩|⟨e,hl,hz⟩ <;> rcases part q' y' hy' with ⟨e',hz'⟩|⟨e',hl',hz'⟩
  ·exact h.inj _ _ _ _ hz hz' hb
  ·have:=h.inj _ _ _ _ hz hz' hb;omega
  ·have:=h.inj _ _ _ _ hz hz' hb;omega
  ·have:=h.inj _ _ _ _ hz hz' hb;omega
 ·rcases part q y hy with ⟨e,hz⟩|⟨e,hl,hz⟩
  ·exact h.lev _ _ hz
  ·exact h.lev _ _ hz
structure CInv (w0:World) (F:List Nd) (f t wb wf c:Nat) (n:Int) (k:Nat) (W:World):Prop where
 sk:Sk W F (lkC F f t k) (ah0 F) n
 way:Blk W wb 294 (Ys F f)
 far:Blk W wf 294 (Ys F t)
 box:Blk W c 3 #[.int .i64 ((t:Int)-f)]
 out:Far (isB F) w0 W
variable {w0:World} {wb wf c:Nat}
theorem CInv.later{k:Nat}{W W':World}(h:CInv w0 F f t wb wf c n k W)(hb:Bl W W'):CInv w0 F f t wb wf c n k W' :=
 ⟨h.sk.later hb,h.way.later hb,h.far.later hb,h.box.later hb,h.out.then_below hb⟩
theorem y2c(hF0:lev F 0=32)(hN:F.length<=1000000)(ht:t<F.length)(hft:f<=t):Links F f wb 0 32 310 #[.pointer (some ⟨wf,0,none⟩),.pointer (some ⟨c,0,none⟩)] (CInv w0 F f t wb wf c n):=by
 refine ⟨enters_of Tryz.func310 (by kernel_rfl) rfl,fun k W W' h hb=>h.later hb,fun k W h=>h.way,fun k W x _ hk h hx=>?_⟩;obtain ⟨A,hA,hNA⟩:=h.sk.node _ x hx;obtain ⟨l1,l2,l3⟩:=Yi F k (by omega) f;obtain ⟨m1,m2,m3⟩:=Yi F k (by omega) t;obtain ⟨y,hy⟩:∃ y,F[Zn F k t]?=some y:=⟨_,lAa (by omega)⟩;obtain ⟨B,hB,hNB⟩:=h.sk.node _ y hy;rw [X8 hy] at m2;obtain ⟨k1,k2⟩:=hNB.link k m2;rw [v1v] at k1 k2;obtain ⟨o,ho⟩:=z4w F (Zn F k t) k;rw [ho] at k1;have hlb:=Dn F hN (Zn F k t) k (by omega);obtain ⟨w1,w2,w3⟩:=Pf F t k (by omega);rw [Yk hy] at w1;refine (x4e x.b y.b _ B (Ys F t) ((Zn F k f:Int)-1) ((Zn F k t:Int)-1) ((t:Int)-f) k wf c (by omega) o _ W hB k1 k2 hlb h.far w1 w2 w3 (by omega) (by omega) h.box (by omega)).mono ?_;rintro e w' ⟨rfl,hb⟩;have h':=h.later hb;have hA':=hA.later hb;have hs67:67<=A.size:=by rw [hNA.size];unfold szq;split <;> decide
 have hwx:∀ {b':Nat} {A':Array Value},Blk W b' 294 A'->b'≠x.b:=fun hh e=>absurd ((e ▸ hh:Blk W x.b 294 _).ty hA) (fun e2=>(z0m _).2.2.1 e2.symm)
 have hcx:c≠x.b:=fun e=>by
  have:=(e ▸ h.box:Blk W x.b 3 _).ty hA
  unfold tyq at this;split at this <;> exact absurd this (by decide)
 refine ⟨_,_,A[3+k*2],A[3+k*2+1],rfl,?_,?_,hA'.free _,hA'.free _,⟨?_,(h'.way.setOther _ _ (hwx h.way)).setOther _ _ (hwx h.way),(h'.far.setOther _ _ (hwx h.far)).setOther _ _ (hwx h.far),(h'.box.setOther _ _ hcx).setOther _ _ hcx,Ku h'.out _ _ _ _ _ (.inl (Vl hx))⟩,hb.size⟩
 ·rw [hA'.cell];exact Array.getElem?_eq_getElem _
 ·rw [hA'.cell];exact Array.getElem?_eq_getElem _
 ·refine h'.sk.setLink hx (by omega) _ _ _ ?_ (fun q' k' hh=>x3g F f t k q' k' hh);unfold lkC;rw [if_pos ⟨by omega,rfl⟩];have ho2:adr F (nxt F k (Zn F k t))=.pointer o:=ho;rw [ho2];refine congrArg _ ?_
  have:(lk0 F (Zn F k t) k).2=(nxt F k (Zn F k t):Int)-Zn F k t-1:=rfl
  omega
theorem v3j{w W:World}(hw:Sk w F (lk0 F) (ah0 F) n)(hb:Bl w W)(h1:Blk W wb 294 (Ys F f))(h2:Blk W wf 294 (Ys F t))(h3:Blk W c 3 #[.int .i64 ((t:Int)-f)]):CInv w F f t wb wf c n 0 W:=by
 have he:lkC F f t 0=lk0 F:=by funext q k;exact x3h ..
 exact ⟨by rw [he];exact hw.later hb,h1,h2,h3,Far.of_below hb⟩
theorem left{w3:World}{x0:Nd}(hF0:lev F 0=32)(ht:t<F.length)(hft:f<=t)(hJ:CInv w0 F f t wb wf c n 32 w3)(hx0:F[f]?=some x0) :
 w3.cell? ⟨wb,0,none⟩=some (.pointer (some ⟨x0.b,0,none⟩))/\∃ w4,(Calls Tryz.prog 212 #[.pointer (some ⟨x0.b,0,none⟩)] w3 fun e w'=>e=.returned (.tuple #[])/\w'=w4) /\
  Far (isB F) w0 w4/\Sk w4 (Xz F f t) (lk0 (Xz F f t)) (ah0 (Xz F f t)) n:=by
 obtain ⟨hsk,hway,hfar,hbox,hout⟩:=hJ;have hl:=J8 hft ht;have hp:∀ i,i<F.length->0<lev F i:=fun i hi=>by rw [X8 (lAa hi)];exact (hsk.lev i _ (lAa hi)).1
 have hle:∀ q k,q<F.length->k<lev F q->k<32:=fun q k hq hk=>by
  have:=(hsk.lev q _ (lAa hq)).2
  rw [X8 (lAa hq)] at hk;omega
 have hlf:=Qe F hp f (by omega);have hlt:=Qe F hp t ht;have hnt:=Fd hp t ht;have w0c:=(Pf F f 0 (by decide)).1;rw [hlf,Yk hx0] at w0c;obtain ⟨A0,hA0,hN0⟩:=hsk.node f x0 hx0;have hA3:=(hN0.link 0 (hsk.lev _ _ hx0).1).1;have hA3:A0[3]?=some (adr F (t+1)):=by unfold lkC at hA3;rw [if_pos ⟨by decide,hlf.symm⟩,hlt,hnt] at hA3;exact hA3
 refine ⟨(hway.cell _).trans w0c,?_⟩
 by_cases hlast:t+1<F.length
 ·obtain ⟨y,hy⟩:∃ y,F[t+1]?=some y:=⟨_,lAa hlast⟩;rw [Yk hy] at hA3;obtain ⟨A1,hA1,hN1⟩:=hsk.node _ y hy;have hs1:67<=A1.size:=by rw [hN1.size];unfold szq;split <;> decide
  have hsk4:=hsk.setAh hy (.pointer (some ⟨x0.b,0,none⟩)) (fun q=>if q=t+1 then .pointer (some ⟨x0.b,0,none⟩) else ah0 F q) (if_pos rfl) (fun q hq=>if_neg hq);refine ⟨_,Fx x0.b _ y.b _ A0 A1 w3 hA0 hA3 hA1 (by omega),hout.set ⟨y.b,2,none⟩ _ (.inl (Vl hy)),?_⟩;refine z3a hsk4 ht hft _ _ (fun q k hq hk=>z2f ht hft hF0 (hle q k (by omega) hk) hq hk) (fun q k hq hq2 hk=>z2e ht hft hF0 (hle _ k (by omega) hk) hq hq2) (fun q hq=>?_) (fun q hq hq2=>?_)
  ·rw [if_neg (by omega)];unfold ah0
   by_cases e:q=0
   ·rw [if_pos e,if_pos e]
   ·rw [if_neg e,if_neg e,Bj ht hft (by omega)]
  ·unfold ah0;rw [if_neg (show ¬ q=0 by omega)]
   by_cases e:q=f+1
   ·subst e;rw [if_pos (by omega),show f+1-1=f by omega,Bj ht hft (lAd _),Yk hx0]
   ·rw [if_neg (by omega),if_neg (by omega),z5q ht hft (by omega)]
    congr 1;omega
 ·rw [Gn (by omega)] at hA3;refine ⟨w3,y0b x0.b _ A0 w3 hA0 hA3,hout,?_⟩;refine z3a hsk ht hft _ _ (fun q k hq hk=>z2f ht hft hF0 (hle q k (by omega) hk) hq hk) (fun q k hq hq2 hk=>z2e ht hft hF0 (hle _ k (by omega) hk) hq hq2) (fun q hq=>?_) (fun q hq hq2=>?_)
  ·unfold ah0
   by_cases e:q=0
   ·rw [if_pos e,if_pos e]
   ·rw [if_neg e,if_neg e,Bj ht hft (by omega)]
  ·omega
end Go.Proofs.YtcklcmafohlflaaGreatDoor.Sk
namespace Go.Proofs.YtcklcmafohlflaaGreatDoor.Sk
open Zc
open Go.RowKit Go.Shelf
attribute [local go_sem] Oper.semAt_some
variable {F:List Nd} {n:Int}
theorem y7t(p:Nat)(L:List Nd)(hF:F=hd p :: L)(w:World)(hw:Sk w F (lk0 F) (ah0 F) n)(hN:F.length<=1000000)(f t:Nat)(ht:t<F.length)(hft:f<=t) :
 Calls Tryz.prog 308 #[.agg (Ys F f),.agg (Ys F t),.int .i64 ((t:Int)-f)] w fun e w'=>e=.returned (.tuple #[])/\Far (isB F) w w'/\Sk w' (Xz F f t) (lk0 (Xz F f t)) (ah0 (Xz F f t)) n:=by
 have hF0:lev F 0=32:=by rw [hF];rfl
 obtain ⟨x0,hx0⟩:∃ x0,F[f]?=some x0:=⟨_,lAa (by omega)⟩;have hlast:∀ k,k<32->Zn F k f<F.length:=fun k hk=>by have:=(Yi F k (by omega) f).1;omega
 have hb1:Bl w (((w.alloc (.cells (Ys F f) 294)).alloc (.cells (Ys F t) 294)).alloc (.cells #[.int .i64 ((t:Int)-f)] 3)):=(((Below.refl _ _).alloc (lAd _) _).alloc (by simp) _).alloc (by simp;omega) _;have k1:Blk (((w.alloc (.cells (Ys F f) 294)).alloc (.cells (Ys F t) 294)).alloc (.cells #[.int .i64 ((t:Int)-f)] 3)) w.heap.size 294 (Ys F f):=((Blk.new _ _ _).alloc _).alloc _
 have k2:Blk (((w.alloc (.cells (Ys F f) 294)).alloc (.cells (Ys F t) 294)).alloc (.cells #[.int .i64 ((t:Int)-f)] 3)) (w.heap.size+1) 294 (Ys F t):=by
  have:=(Blk.new (w.alloc (.cells (Ys F f) 294)) 294 (Ys F t)).alloc (Obj.cells #[.int .i64 ((t:Int)-f)] 3);simpa using this
 have k3:Blk (((w.alloc (.cells (Ys F f) 294)).alloc (.cells (Ys F t) 294)).alloc (.cells #[.int .i64 ((t:Int)-f)] 3)) (w.heap.size+1+1) 3 #[.int .i64 ((t:Int)-f)]:=by
  have:=Blk.new ((w.alloc (.cells (Ys F f) 294)).alloc (.cells (Ys F t) 294)) 3 #[.int .i64 ((t:Int)-f)];simpa using this
 have HR:=jY (Gf (y2c (w0:=w) (wb:=w.heap.size) (wf:=w.heap.size+1) (c:=w.heap.size+1+1) (n:=n) hF0 hN ht hft) hlast (by omega) 32 _ (v3j hw hb1 k1 k2 k3));have HL:=fun w3 (hJ:CInv w F f t w.heap.size (w.heap.size+1) (w.heap.size+1+1) n 32 w3)=>jY (left hF0 ht hft hJ hx0);have hs1:=X6 F f;have hs2:=X6 F t;generalize Ys F f=WA at *;generalize Ys F t=WB at *;clear hb1 k1 k2 k3 hw hF hx0 hlast;generalize hd':(t:Int)-f=d at *;clear hd'
 go_enter Tryz.func308,Tryz.ntmps308
 go_wp2_with fail;refine HR.out.mono ?_;rintro e w2 ⟨rfl,hJ⟩;obtain ⟨q0,w4,T1,hf,hsk⟩:=(HL w2 hJ).out;have T1:=jY T1;have HFF:=jY hf;have HSK:=jY hsk;clear HR HL hJ hf hsk;go_wp2_with fail;refine T1.out.mono ?_;rintro e w6 ⟨rfl,rfl⟩;go_wp2_with fail;go_returns;exact ⟨rfl,HFF.out,HSK.out⟩
theorem z5r{W:World}{b:Nat}{cl:List Value}(h:Blk W b 294 cl.toArray):W.rangeAt b 0 cl:=fun j v hv=>by
 rw [Nat.zero_add,h.cell];simpa using hv
theorem x1s(p:Nat)(L:List Nd)(hF:F=hd p :: L)(w:World)(hw:Sk w F (lk0 F) (ah0 F) n)(f t:Int)(h:min t n<=max f 0):Calls Tryz.prog 300 #[.pointer (some ⟨p,0,none⟩),.int .i64 f,.int .i64 t] w fun e w'=>e=.returned (.int .i64 0)/\w'=w:=by
 have HP:=jY (M0 p L hF hw f t);generalize max f 0=a at *;generalize min t n=b at *;clear hw hF
 go_enter Tryz.func300,Tryz.ntmps300
 go_wp2_with fail;refine HP.out.mono ?_;rintro e w1 ⟨rfl,rfl⟩;go_wp2;go_returns;exact ⟨rfl,rfl⟩
theorem y4z(p:Nat)(L:List Nd)(hF:F=hd p :: L)(w:World)(hw:Sk w F (lk0 F) (ah0 F) n)(hN:F.length<=1000000)(hn:n=L.length)(f t:Int)(a b:Nat)(ha:(a:Int)=max f 0)(hb:(b:Int)=min t n)(hab:a<b) :
 Calls Tryz.prog 300 #[.pointer (some ⟨p,0,none⟩),.int .i64 f,.int .i64 t] w fun e w'=>e=.returned (.int .i64 ((b:Int)-a))/\Far (isB F) w w'/\Sk w' (Xz F a b) (lk0 (Xz F a b)) (ah0 (Xz F a b)) (n-((b:Int)-a)):=by
 have HP:=jY (M0 p L hF hw f t);rw [<- ha,<- hb] at HP;have hFl:F.length=L.length+1:=by rw [hF];rfl
 have hbF:b<F.length:=by omega
 have HT1:=jY (Jm p L hF hw hN a (by omega));have HT2:=fun W (hb1:Bl w W)=>jY (Jm p L hF (hw.later hb1) hN b hbF);have HLV:=fun W (hb1:Bl w W)=>jY (y7t p L hF W (hw.later hb1) hN a b hbF (by omega));have hF0:F[0]?=some (hd p):=by rw [hF];rfl
 have HF0:=jY hF0;have HW:=jY hw;have hnn:n<=1000000:=by omega
 have hn0:0<=n:=by omega
 have hbn:(b:Int)<=n:=by omega
 have hab':¬ (b:Int)<=a:=by omega
 have hsA:=X6 F a;have hsB:=X6 F b;have hoA:=Ie F a;clear hw hF hF0 ha hb hn hFl;generalize Ys F a=WA at *;generalize Ys F b=WB at *;obtain ⟨cl⟩:=WA
 go_enter Tryz.func300,Tryz.ntmps300
 go_wp2_with fail;refine HP.out.mono ?_;rintro e w1 ⟨rfl,rfl⟩;go_wp2_with fail;rename_i Kk hKk;refine HT1.out.mono ?_;rintro e w2 ⟨rfl,hb2⟩;refine hKk _ _ ?_;refine wpList_plain rfl ?_;intro K2 hK2;refine z0s rfl ?_;refine hK2 _ _ ?_;clear hK2 K2;refine wpList_plain rfl ?_;intro K2 hK2;refine O5 _ _ rfl _ rfl rfl (Blk.new _ _ _) Ig hsA hoA ?_;refine hK2 _ _ ?_;clear hK2 K2;have kW:Blk ((w2.alloc (.cells zW 294)).setRow w2.heap.size cl.toArray) w2.heap.size 294 cl.toArray:=(Blk.new _ _ _).setRow _;have hb4:Bl w2 ((w2.alloc (.cells zW 294)).setRow w2.heap.size cl.toArray):=⟨rfl,rfl,rfl,by rw [Qy];simp,fun q hq=>(U0 _ (Nat.ne_of_lt hq)).trans (((Below.refl w2.heap.size w2).alloc (lAd _) _).block q hq)⟩;have hb5:=hb2.trans (hb4.mono hb2.size);generalize (w2.alloc (.cells zW 294)).setRow w2.heap.size cl.toArray=w3 at *;generalize w2.heap.size=wb at *;have KW:=jY kW;have HB5:=jY hb5;clear kW hb4 hb5 hb2 hKk Kk;have hi71:(Tryz.prog.info? 294).map (·.size)=some cl.length:=by rw [z6e];simpa using hsA.symm
 have hu71:=Bq;have hR0:w3.drew.rangeAt wb 0 cl:=z5r KW.out.drew;have hBD:Bl w1 w3.drew:=HB5.out.drew;have hwbF:¬ isB F wb:=(HW.out.later HB5.out).not_ty KW.out (fun q=>(z0m q).2.2.1);have HT3:=HT2 _ hBD;clear HT2;have hwr:IntKind.i64.wrap ((b:Int)-a)=(b:Int)-a:=IntWalk.i64_in _ (by omega);go_wp2_with fail;change Code.wp _ _ _ { tmps:=#[.pointer (some ⟨p,0,none⟩),.int .i64 a,.int .i64 b,undef,undef,undef,.int .i64 0,.pointer (some ⟨wb,0,none⟩),.tuple #[.int .i64 a,.int .i64 b],.pointer (some ⟨p,0,none⟩),.int .i64 f,.int .i64 t,.tuple #[.int .i64 a,.int .i64 b],.int .i64 a,.int .i64 b,.int .i64 a,.int .i64 b,.bool (decide (b<=a)),.pointer (some ⟨p,0,none⟩),.int .i64 a,.agg cl.toArray,undef,undef,undef,undef,undef,undef,undef,undef,undef,undef,undef,undef,undef,undef,undef,undef,undef,undef,undef,undef,undef],defers:=[] } w3
 go_region_held (fun w'=>w'.rangeAt wb 0 cl)
  (first|exact hR0|exact hR5|exact hR6)
  (first
    | (go_at_call 298;refine HT3.out.mono ?_;rintro e w5 ⟨rfl,hb6⟩;have hbw5:=hBD.trans (hb6.mono hBD.size);have hK5:=jY (KW.out.drew.later hb6);have hR5:=z5r hK5.out;have HLV5:=HLV _ hbw5)
    | (go_at_call 308;refine HLV5.out.mono ?_;rintro e w6 ⟨rfl,hf6,hsk6⟩;have hR6:=z5r (hf6.blk hK5.out hwbF)))
 have hx0':(Xz F a b)[0]?=some (hd p):=by rw [Bk hbF (by omega) (Nat.zero_le _)];exact HF0.out
 obtain ⟨A5,hA5,hN5⟩:=hsk6.node 0 (hd p) hx0';have n5:w6.cell? ⟨p,67,none⟩=some (.int .i64 n):=(hA5.cell 67).trans (hN5.n rfl);have n6:w6.frozen? ⟨p,67,none⟩=false:=hA5.free 67;have HSK:=jY hsk6;have HFF:=jY hf6;have HX0:=jY hx0';have HBW:=jY hbw5;clear hsk6 hf6 hA5 hN5 hx0' hR6 hR5 hR0 hbw5 hb6 HLV5 HLV HT3 hi71 hu71 hK5 hwbF;go_wp2_with fail;go_returns;refine ⟨rfl,?_,HSK.out.setN HX0.out _⟩;exact ((Far.of_below HBW.out).trans HFF.out (fun q hq=>.inl hq)).set ⟨p,67,none⟩ _ (.inl (Vl HF0.out))
theorem Iz(p:Nat)(L:List Nd)(hF:F=hd p :: L)(w:World)(hw:Sk w F (lk0 F) (ah0 F) n)(hN:F.length<=1000000)(hn:n=L.length)(a:Nat)(ha:a<F.length)(m:ByteArray)(s:Int)(hq:∀ q x,0<q->F[q]?=some x->Yc x.m x.s m s=decide (q<=a)) :
 Calls Tryz.prog 291 #[.pointer (some ⟨p,0,none⟩),.agg #[.string m,.int .i64 s]] w fun e w' =>
  (Qq F (a+1) m s=false->e=.returned (.bool false)/\Bl w w') /\
  (Qq F (a+1) m s=true->e=.returned (.bool true)/\Far (isB F) w w'/\Sk w' (Xz F a (a+1)) (lk0 (Xz F a (a+1))) (ah0 (Xz F a (a+1))) (n-1)):=by
 have hb1:Bl w (w.alloc (.cells #[.string m,.int .i64 s] 94)):=(Below.refl _ _).alloc (lAd _) _;have kE:Blk (w.alloc (.cells #[.string m,.int .i64 s] 94)) w.heap.size 94 #[.string m,.int .i64 s]:=Blk.new _ _ _;obtain ⟨e0,e1,_,_⟩:=Za kE;have HS:=jY (z9i p L hF (hw.later hb1) hN m s a ha hq);have hFl:F.length=L.length+1:=by rw [hF];rfl
 have HC:=fun W (hb:Bl w W) (hh:Qq F (a+1) m s=true)=>jY (y4z p L hF W (hw.later hb) hN hn a ((a:Int)+1) a (a+1) (by omega) (by
  unfold Qq at hh
  split at hh
  ·rename_i x hx
   have:=(lAb.1 hx).1
   omega
  ·cases hh) (by omega))
 obtain ⟨bb,hbb⟩:∃ bb,Qq F (a+1) m s=bb:=⟨_,rfl⟩;rw [hbb] at HS HC;have HBB:=jY hbb;have HB1:=jY hb1;have ha2:(a:Int)<=1000000:=by omega
 clear hb1 kE hw hF hq hbb hn hFl ha hN
 go_enter Tryz.func291,Tryz.ntmps291
 go_wp2_with fail;refine HS.out.mono ?_;rintro e w1 ⟨rfl,hb⟩;have hbw:=HB1.out.trans (hb.mono HB1.out.size);have HBW:=jY hbw;clear hb hbw
 cases bb with
 | false =>
   clear HC;go_wp2_with fail;go_returns;refine ⟨fun _=>⟨rfl,HBW.out⟩,fun h=>?_⟩;rw [HBB.out] at h
   cases h
 | true =>
   have HC2:=HC w1 HBW.out rfl;rw [show ((a+1:Nat):Int)-a=1 by omega] at HC2;clear HC;go_wp2_with fail;refine HC2.out.mono ?_;rintro e w2 ⟨rfl,hf,hsk⟩;have HFF:=jY hf;have HSK:=jY hsk;clear hf hsk;go_wp2_with fail;go_returns;refine ⟨fun h=>?_,fun _=>⟨rfl,(Far.of_below HBW.out).trans HFF.out (fun q hq=>.inl hq),HSK.out⟩⟩;rw [HBB.out] at h
   cases h
def K8(W:World)(n0:Nat)(v:Value)(l:List Ent):Prop:=W.ownsRow n0 94 2 v l.length (Zx l)
section
variable {e:TypeId} {sz:Nat}
theorem z5d{β:Type}(B n0:Nat)(v:Value)(k:β->Nat)(xs:β->List Value):OwnFrom B (fun s W=>W.ownsRow n0 e sz v (k s) (xs s)):=fun s X Y row hs hg hr =>
 World.ownsRow.kept hs hg (by
  rcases hs.2 with ⟨rfl,_⟩|⟨g,cap,cur,rfl,_,hgb,_⟩
  ·exact .inl rfl
  ·refine .inr (fun e=>?_);obtain ⟨_,o,ho,hc⟩:=hr g e.symm
   rw [hgb] at ho;cases ho;cases hc)
theorem Qf{W W6:World}{n0 k:Nat}{r:Value}{xs:List Value}(h:W.ownsRow n0 e sz r k xs)(hb:Bl W W6):W6.ownsRow n0 e sz r k xs:=World.ownsRow.kept h (Z9 hb) (by
 rcases h.2 with ⟨rfl,_⟩|⟨g,cap,cur,rfl,_⟩
 ·exact .inl rfl
 ·exact .inr (by simp [Value.ownBlock]))
theorem own_set{W:World}{n0 k:Nat}{r:Value}{xs:List Value}(h:W.ownsRow n0 e sz r k xs)(b o:Nat)(v:Value)(hb:b<n0):(W.setCell ⟨b,o,none⟩ v).ownsRow n0 e sz r k xs:=by
 refine ⟨h.1,?_⟩;rcases h.2 with hn|⟨g,cap,cur,rfl,h1,h2,h3⟩
 ·exact .inl hn
 ·exact .inr ⟨g,cap,cur,rfl,h1,(Below.heap_setCell _ _ _ _ (by show g≠b;omega)).trans h2,h3⟩
theorem J6{w:World}{base base':Nat}{v:Value}{n:Nat}{xs:List Value}(h:w.ownsRow base e sz v n xs)(hb:base'<=base):w.ownsRow base' e sz v n xs:=by
 refine ⟨h.1,?_⟩;rcases h.2 with hn|⟨g,cap,cur,rfl,hb',rest⟩
 ·exact .inl hn
 ·exact .inr ⟨g,cap,cur,rfl,lAe hb hb',rest⟩
theorem z2o{W W':World}{n0 k N:Nat}{r:Value}{xs:List Value}(h:W.ownsRow n0 e sz r k xs)(ha:Aside N W W')(he:e≠292):W'.ownsRow n0 e sz r k xs:=by
 refine ⟨h.1,?_⟩;rcases h.2 with hn|⟨g,cap,cur,rfl,h1,h2,h3⟩
 ·exact .inl hn
 ·exact .inr ⟨g,cap,cur,rfl,h1,ha.block _ _ h2 (.inr fun c e2=>by simp at e2;exact he e2.2),h3⟩
theorem Blk.grown{W W7:World}{b n0 k:Nat}{t:TypeId}{c:Array Value}{r:Value}{xs:List Value}{o:Obj}(h:Blk W b t c)(hg:(W.alloc o).grownBy W7 r.ownBlock)(ho:W.ownsRow n0 e sz r k xs)(ht:t≠e):Blk W7 b t c :=
 (hg.block b (h.alloc o).lt (fun e2=>by
   rcases ho.2 with ⟨rfl,_⟩|⟨g,cap,cur,rfl,_,hgb,_⟩
   ·simp [Value.ownBlock] at e2
   ·simp [Value.ownBlock] at e2;subst e2
    have:=(show W.heap[b]?=_ from h).symm.trans hgb
    simp at this
    exact ht this.2)).trans (h.alloc o)
theorem z3p{w0 W W6 W7:World}{o:Obj}{b n0 t k k':Nat}{r v':Value}{l l':List Value}(h:Blk W b t #[r])(ho:W.ownsRow n0 e sz r k l)(hb6:Bl W W6)(hgrow:(W6.alloc o).grownBy W7 r.ownBlock)(ho7:W7.ownsRow n0 e sz v' k' l')(hbn:b<n0)
 (hB:Bl w0 W) (hw:w0.heap.size<=b) (ht:t≠e) (het:¬ itT e) (htt:¬ itT t) (B:Nat) (L:List Nat) :
 KeepsFrom B W (W7.setCell ⟨b,0,none⟩ v')/\KeepC itT L W (W7.setCell ⟨b,0,none⟩ v')/\Bl w0 (W7.setCell ⟨b,0,none⟩ v')/\Blk (W7.setCell ⟨b,0,none⟩ v') b t #[v']/\(W7.setCell ⟨b,0,none⟩ v').ownsRow n0 e sz v' k' l':=by
 have h7:=(h.later hb6).grown hgrow (Qf ho hb6) ht;have hs6:=hb6.size;have hsw:=hB.size;refine ⟨?_,?_,?_,h7.set 0 v',?_⟩
 ·refine (((KeepsFrom.of_grownBy (row:=none) (Z9 hb6) (fun _ h=>by cases h)).trans ((KeepsOthers.alloc _ _).from _)).trans ((KeepsOthers.of_grownBy hgrow fun j o ej hj=>?_).from B)).trans ((KeepsOthers.setCell _ _ _).from _);rcases (World.ownsRow.alloc (Qf ho hb6) _).2 with ⟨rfl,_⟩|⟨g,cap,cur,rfl,_,hgb,_⟩
  ·simp [Value.ownBlock] at ej
  ·obtain rfl:g=j:=by simpa [Value.ownBlock] using ej
   rw [hgb] at hj;cases hj;rfl
 ·refine (((KeepC.of_below hb6).trans (KeepC.of_below ((Below.refl _ _).alloc (lAd _) _))).trans (KeepC.of_grownBy hgrow fun k c t ek hk=>?_)).trans (KeepC.of_grownBy (row:=some b) (grownBy_setCell' _ _ _) fun k c t ek hk=>?_)
  ·rcases (World.ownsRow.alloc (Qf ho hb6) o).2 with ⟨rfl,_⟩|⟨g,cap,cur,rfl,_,hgb,_⟩
   ·simp [Value.ownBlock] at ek
   ·obtain rfl:g=k:=by simpa [Value.ownBlock] using ek
    rw [hgb] at hk;cases hk;exact het
  ·cases ek
   rw [show W7.heap[b]?=_ from h7] at hk;cases hk;exact htt
 ·refine (((hB.trans (hb6.mono hsw)).alloc (by omega) o).grown hgrow (by simp;omega) fun k ek=>?_).setCell (p:=⟨b,0,none⟩) hw v'
  have:=(World.ownsRow.lt ho k ek).1
  omega
 ·exact own_set ho7 b 0 v' hbn
end
theorem Bb{W W6:World}{n0:Nat}{r:Value}{l:List Ent}(hown:K8 W n0 r l)(hb:Bl W W6)(e:Ent)(hl:l.length<=1000000000)(hn:n0<=W6.heap.size) :
 ∃ g cap W7,(Builtin.append_ #[55,55] 55 #[r,.slice (some ⟨W6.heap.size,0,none⟩) 1 1]).run Tryz.prog (W6.alloc (.cells #[.string e.1,.int .i64 e.2] 94))=.ok (.slice (some ⟨g,0,none⟩) (l.length+1) cap) W7 /\
  K8 W7 n0 (.slice (some ⟨g,0,none⟩) (l.length+1) cap) (l++[e])/\(W6.alloc (.cells #[.string e.1,.int .i64 e.2] 94)).grownBy W7 r.ownBlock:=by
 obtain ⟨i0,hi0,hz0,hz1,hz2⟩:=info_parts Yo
 obtain ⟨v',w',hrun,r1,r2,r3⟩:=run_append_own (P:=Tryz.prog) (W6.alloc (.cells #[.string e.1,.int .i64 e.2] 94)) n0 55 55 94 i0 _ 2 24 Tryz.underlying55 hi0 hz0 hz1 hz2 rfl (by decide) r _ _ (World.ownsRow.alloc (Qf hown hb) _) ⟨W6.heap.size,0,none⟩ 1 1 [.string e.1,.int .i64 e.2] rfl
  (fun j u hj=>by
    have hB:=Blk.new W6 94 #[.string e.1,.int .i64 e.2]
    match j,hj with
    | 0,hj=>simp at hj;subst hj;exact hB.cell 0
    | 1,hj=>simp at hj;subst hj;simp [Addr.add]
    | j+2,hj=>simp at hj)
  (by simp [Value.oneCell']) (by unfold maxLen;omega) (by omega) (by simp;omega)
 have r1':K8 w' n0 v' (l++[e]):=by
  unfold K8;rw [Zb,lAh];exact r1
 rcases r1.2 with ⟨rfl,h0⟩|⟨g,cap,cur,rfl,_⟩
 ·omega
 ·exact ⟨g,cap,w',hrun,r1',r2⟩
theorem Oi{F:Fence}{n:Nat}{P:Program}{ops:Array Oper}{o:Oper}{a:Act}{w w':World}{K:Act->World->Prop}{Q:Exit->Act->World->Prop}{E:Prop}{v xv v':Value}(hgd:o.guard=none)(s x:Operand)(t u:TypeId)
 (ho:o.op=Op.call { callee:=Callee.builtin Builtin.append,args:=#[s,x],argTypes:=#[t,u] }) (hs:a.eval s=v) (hx:a.eval x=xv) (hrun:(Builtin.append_ #[t,u] o.type #[v,xv]).run P w=.ok v' w')
 (h:K (a.put o.dst v') w'):if Region.wanted o (yielded ops a.tmps)=true then Oper.wpIn F n P o a w K Q else E:=by
 have hw:Region.wanted o (yielded ops a.tmps)=true:=by simp [Region.wanted,hgd]
 rw [if_pos hw];unfold Oper.wpIn;refine ⟨?_,?_⟩
 ·simp [Oper.about,ho,resolve,Target.leads,Sem.run_pure]
 ·rw [Oper.semAt_plain F _ _ (by rw [ho];intro c hc';cases hc')];simp [execOp,ho,resolve,invoke,builtin,hs,hx,hrun,Result.andThen];exact h
theorem z7y(a:ByteArray)(s:Int):Yc a s a s=false:=by
 simp only [Yc,decide_eq_false_iff_not];rintro (h|⟨_,h⟩)
 ·omega
 ·exact List.lt_irrefl _ h
theorem z4u{a b c:ByteArray}{s t u:Int}(h:Yc a s b t=true)(g:Yc b t c u=true):Yc a s c u=true:=by
 simp only [Yc,decide_eq_true_eq] at *;rcases h with h|⟨h,h'⟩ <;> rcases g with g|⟨g,g'⟩
 ·exact .inl (by omega)
 ·exact .inl (by omega)
 ·exact .inl (by omega)
 ·exact .inr ⟨by omega,List.lt_trans h' g'⟩
theorem z4t(a b:ByteArray)(s t:Int)(h:Yc a s b t=false)(hn:¬ (a=b/\s=t)):Yc b t a s=true:=by
 simp only [Yc,decide_eq_false_iff_not,decide_eq_true_eq] at *
 by_cases e:s=t
 ·right
  refine ⟨e.symm,?_⟩;have h1:¬ a.data.toList<b.data.toList:=fun h2=>h (.inr ⟨e,h2⟩);have h2:a.data.toList≠b.data.toList:=fun h2=>hn ⟨by cases a;cases b;simp at h2;rw [h2],e⟩;rcases Std.le_total (a:=a.data.toList) (b:=b.data.toList) with h3|h3
  ·exact absurd (Std.lt_of_le_of_ne h3 h2) h1
  ·exact Std.lt_of_le_of_ne h3 (Ne.symm h2)
 ·left
  have:¬ s<t:=fun h2=>h (.inl h2)
  omega
def Srt(L:List Nd):Prop:=L.Pairwise fun x y=>Yc x.m x.s y.m y.s=true
def pos(L:List Nd)(m:ByteArray)(s:Int):Nat:=(L.takeWhile fun x=>Yc x.m x.s m s).length
theorem z5m(L:List Nd)(m:ByteArray)(s:Int):pos L m s<=L.length:=by
 unfold pos;exact (List.takeWhile_sublist _).length_le
theorem z8q{L:List Nd}(hs:Srt L)(m:ByteArray)(s:Int):∀ (i:Nat) (x:Nd),L[i]?=some x->Yc x.m x.s m s=decide (i<pos L m s):=by
 induction L with
 | nil=>intro i x h;simp at h
 | cons y L ih =>
   intro i x h;have hs':Srt L:=(List.pairwise_cons.1 hs).2
   by_cases hy:Yc y.m y.s m s=true
   ·have hp:pos (y :: L) m s=pos L m s+1:=by simp [pos,hy]
    rw [hp]
    cases i with
    | zero=>simp at h;subst h;simpa using hy
    | succ i =>
      rw [ih hs' i x (by simpa using h)];simp
   ·have hp:pos (y :: L) m s=0:=by simp [pos,hy]
    rw [hp];have hy':Yc y.m y.s m s=false:=by simpa using hy
    cases i with
    | zero=>simp at h;subst h;simpa using hy'
    | succ i =>
      have hx:x∈L:=lAc (by simpa using h:L[i]?=some x)
      have:=(List.pairwise_cons.1 hs).1 x hx
      cases hxe:Yc x.m x.s m s with
      | false=>simp
      | true=>exact absurd (z4u this hxe) hy
theorem x2m{L:List Nd}(hs:Srt L)(p:Nat)(m:ByteArray)(s:Int):∀ q x,0<q->(hd p :: L)[q]?=some x->Yc x.m x.s m s=decide (q<=pos L m s):=by
 intro q x h0 hx;obtain ⟨i,rfl⟩:∃ i,q=i+1:=⟨q-1,by omega⟩;rw [z8q hs m s i x (by simpa using hx),decide_eq_decide];omega
def has(L:List Nd)(m:ByteArray)(s:Int):Bool:=match L[pos L m s]? with
 | some x=>decide (x.m=m/\x.s=s)
 | none=>false
theorem y1o(p:Nat)(L:List Nd)(m:ByteArray)(s:Int):Qq (hd p :: L) (pos L m s+1) m s=has L m s:=by
 unfold Qq has;rw [List.getElem?_cons_succ];rfl
theorem x9r{L:List Nd}(hs:Srt L)(x:Nd)(hn:has L x.m x.s=false):Srt (L.take (pos L x.m x.s)++x :: L.drop (pos L x.m x.s)):=by
 have hsp:=z8q hs x.m x.s;refine List.pairwise_append.2 ⟨hs.sublist (List.take_sublist _ _),List.pairwise_cons.2 ⟨fun y hy=>?_,hs.sublist (List.drop_sublist _ _)⟩,fun y hy z hz=>?_⟩
 ·obtain ⟨i,hi⟩:=List.mem_iff_getElem?.1 hy;rw [List.getElem?_drop] at hi;have h1:=hsp _ y hi;rw [show decide (pos L x.m x.s+i<pos L x.m x.s)=false by simp] at h1;refine z4t _ _ _ _ h1 (fun e=>?_)
  cases i with
  | zero =>
    unfold has at hn;rw [Nat.add_zero] at hi;rw [hi] at hn;simp [e] at hn
  | succ i =>
    have hl:=(lAb.1 hi).1;have h2:L[pos L x.m x.s]?=some L[pos L x.m x.s]:=lAa (by omega);have h3:=hsp _ _ h2;rw [show decide (pos L x.m x.s<pos L x.m x.s)=false by simp] at h3;have h4:=List.pairwise_iff_getElem.1 hs (pos L x.m x.s) (pos L x.m x.s+(i+1)) (by omega) hl (by omega);rw [(lAb.1 hi).2,e.1,e.2] at h4;rw [h4] at h3
    cases h3
 ·have hy1:Yc y.m y.s x.m x.s=true:=by
   obtain ⟨i,hi⟩:=List.mem_iff_getElem?.1 hy;have hil:=(lAb.1 hi).1;rw [List.length_take] at hil;rw [List.getElem?_take_of_lt (by omega)] at hi;rw [hsp i y hi]
   simp;omega
  rcases List.mem_cons.1 hz with rfl|hz
  ·exact hy1
  ·obtain ⟨i,hi⟩:=List.mem_iff_getElem?.1 hy;obtain ⟨j,hj⟩:=List.mem_iff_getElem?.1 hz;have hil:=(lAb.1 hi).1;rw [List.length_take] at hil;rw [List.getElem?_take_of_lt (by omega)] at hi;rw [List.getElem?_drop] at hj;obtain ⟨hi1,hi2⟩:=lAb.1 hi;obtain ⟨hj1,hj2⟩:=lAb.1 hj
   have:=List.pairwise_iff_getElem.1 hs i _ hi1 hj1 (by omega)
   rw [hi2,hj2] at this;exact this
theorem y6h{L:List Nd}(hs:Srt L){a b:Nat}(h:a<=b):Srt (L.take a++L.drop b):=by
 refine hs.sublist ?_
 have h1:(L.take a++L.drop b).Sublist (L.take a++L.drop a):=(List.Sublist.refl _).append (by
  rw [show b=a+(b-a) by omega,<- List.drop_drop]
  exact List.drop_sublist _ _)
 rwa [List.take_append_drop] at h1
structure Ls (W:World) (p:Nat) (L:List Nd):Prop where
 sk:Sk W (hd p :: L) (lk0 (hd p :: L)) (ah0 (hd p :: L)) L.length
 srt:Srt L
variable {w:World} {p:Nat} {L:List Nd}
theorem Ls.far{w':World}{S:Nat->Prop}(h:Ls w p L)(hf:Far S w w')(hS:∀ k,isB (hd p :: L) k->¬ S k):Ls w' p L:=⟨h.sk.far hf hS,h.srt⟩
theorem Ls.later{w':World}(h:Ls w p L)(hb:Bl w w'):Ls w' p L:=⟨h.sk.later hb,h.srt⟩
theorem v1p(p:Nat)(L:List Nd)(a:Nat)(x:Nd):Va (hd p :: L) a x=hd p :: (L.take a++x :: L.drop a):=by unfold Va;rw [List.take_succ_cons,List.drop_succ_cons];rfl
theorem x5g(p:Nat)(L:List Nd)(a b:Nat):Xz (hd p :: L) a b=hd p :: (L.take a++L.drop b):=by unfold Xz;rw [List.take_succ_cons,List.drop_succ_cons];rfl
theorem x9m(h:Ls w p L)(hN:L.length<=100000)(m:ByteArray)(s:Int):Calls Tryz.prog 301 #[.pointer (some ⟨p,0,none⟩),.agg #[.string m,.int .i64 s]] w fun e w'=>e=.returned (.tuple #[.int .i64 (pos L m s),.bool (has L m s)])/\Bl w w':=by
 have:=z9i p L rfl h.sk (by simp;omega) m s (pos L m s) (by have:=z5m L m s;simp;omega) (x2m h.srt p m s)
 rwa [y1o] at this
def Xe(L:List Nd)(x:Nd):List Nd:=L.take (pos L x.m x.s)++x :: L.drop (pos L x.m x.s)
theorem y7m(h:Ls w p L)(hN:L.length<=100000)(m:ByteArray)(hm:m.size<=281474976710656)(s:Int)(l:Nat)(hl:0<l/\l<=32) :
 Calls Tryz.prog 166 #[.pointer (some ⟨p,0,none⟩),.agg #[.string m,.int .i64 s],.int .i64 l] w fun e w' =>
  (has L m s=true->e=.returned (.int .i64 90)/\Bl w w') /\
  (has L m s=false->e=.returned (.int .i64 0)/\∃ nb,w.heap.size<=nb/\Far (isB (hd p :: L)) w w'/\Ls w' p (Xe L ⟨nb,m,s,l⟩)):=by
 have:=G6 p L rfl w h.sk (by simp;omega) rfl (pos L m s) (by have:=z5m L m s;simp;omega) m hm s l hl (x2m h.srt p m s)
 rw [y1o] at this;refine this.mono ?_;rintro e w' ⟨h1,h2⟩;refine ⟨h1,fun hh=>?_⟩;obtain ⟨he,nb,hn,hf,hsk⟩:=h2 hh;refine ⟨he,nb,hn,hf,?_,x9r h.srt ⟨nb,m,s,l⟩ hh⟩;rw [v1p] at hsk
 have hlen:((L.take (pos L m s)++(⟨nb,m,s,l⟩:Nd) :: L.drop (pos L m s)).length:Int)=(L.length:Int)+1:=by
  have:=z5m L m s
  simp;omega
 unfold Xe;rw [<- hlen] at hsk;exact hsk
theorem v1d(h:Ls w p L)(hN:L.length<=100000)(f t:Int)(a b:Nat)(ha:(a:Int)=max f 0)(hb:(b:Int)=min t L.length)(hab:a<b) :
 Calls Tryz.prog 300 #[.pointer (some ⟨p,0,none⟩),.int .i64 f,.int .i64 t] w fun e w'=>e=.returned (.int .i64 ((b:Int)-a))/\Far (isB (hd p :: L)) w w'/\Ls w' p (L.take a++L.drop b):=by
 refine (y4z p L rfl w h.sk (by simp;omega) rfl f t a b ha hb hab).mono ?_;rintro e w' ⟨he,hf,hsk⟩;refine ⟨he,hf,?_,y6h h.srt (by omega)⟩;rw [x5g] at hsk;have hlen:((L.take a++L.drop b).length:Int)=(L.length:Int)-((b:Int)-a):=by simp;omega
 rw [<- hlen] at hsk;exact hsk
theorem y6x(h:Ls w p L)(hN:L.length<=100000)(m:ByteArray)(s:Int):Calls Tryz.prog 291 #[.pointer (some ⟨p,0,none⟩),.agg #[.string m,.int .i64 s]] w fun e w' =>
 (has L m s=false->e=.returned (.bool false)/\Bl w w') /\
 (has L m s=true->e=.returned (.bool true)/\Far (isB (hd p :: L)) w w'/\Ls w' p (L.take (pos L m s)++L.drop (pos L m s+1))):=by
 have:=Iz p L rfl w h.sk (by simp;omega) rfl (pos L m s) (by have:=z5m L m s;simp;omega) m s (x2m h.srt p m s)
 rw [y1o] at this;refine this.mono ?_;rintro e w' ⟨h1,h2⟩;refine ⟨h1,fun hh=>?_⟩;obtain ⟨he,hf,hsk⟩:=h2 hh;refine ⟨he,hf,?_,y6h h.srt (by omega)⟩;rw [x5g] at hsk
 have hlt:pos L m s<L.length:=by
  unfold has at hh
  split at hh
  ·rename_i x hx;exact (lAb.1 hx).1
  ·cases hh
 have hlen:((L.take (pos L m s)++L.drop (pos L m s+1)).length:Int)=(L.length:Int)-1:=by simp;omega
 rw [<- hlen] at hsk;exact hsk
def z63:Array Value:=z61++#[.int .i64 0]
theorem x8f:(Tryz.prog.info? 265).map (fun i=>(i.zero,i.size))=some (some (.agg z63),68):=by kernel_rfl
theorem v3g(w:World):(zeroValue 265).run Tryz.prog w=.ok (.agg z63) w:=(zero_of_info x8f).1 w
theorem x0w:z63.size=68/\z63[0]?=some (.string ⟨#[]⟩)/\z63[1]?=some (.int .i64 0)/\z63[2]?=some (.pointer none)/\z63[67]?=some (.int .i64 0):=⟨by decide +kernel,rfl,rfl,rfl,rfl⟩
theorem x7b:∀ k:Fin 32,z63[3+k.val*2]?=some (.pointer none)/\z63[3+k.val*2+1]?=some (.int .i64 0):=by
 intro k
 match k with
 | ⟨k,hk⟩ =>
   have:k=0\/k=1\/k=2\/k=3\/k=4\/k=5\/k=6\/k=7\/k=8\/k=9\/k=10\/k=11\/k=12\/k=13\/k=14\/k=15\/k=16\/k=17\/k=18\/k=19\/k=20\/k=21\/k=22\/k=23\/k=24\/k=25\/k=26\/k=27\/k=28\/k=29\/k=30\/k=31:=by omega
   rcases this with rfl|rfl|rfl|rfl|rfl|rfl|rfl|rfl|rfl|rfl|rfl|rfl|rfl|rfl|rfl|rfl|rfl|rfl|rfl|rfl|rfl|rfl|rfl|rfl|rfl|rfl|rfl|rfl|rfl|rfl|rfl|rfl <;> exact ⟨rfl,rfl⟩
theorem Uv(w:World):Calls Tryz.prog 140 #[] w fun e w'=>e=.returned (.pointer (some ⟨w.heap.size,0,none⟩))/\Bl w w'/\Ls w' w.heap.size []:=by
 have hz:=v3g;obtain ⟨f0,f1,f2,f3,f4⟩:=x0w;have hl:=x7b;generalize z63=zz at *;have HL:=jY hl;have HF:=jY (And.intro f1 (And.intro f2 (And.intro f3 f4)));clear hl f1 f2 f3 f4
 go_enter Tryz.func140,Tryz.ntmps140
 go_wp2_with fail;go_returns;obtain ⟨f1,f2,f3,f4⟩:=HF.out;refine ⟨rfl,(Below.refl _ _).alloc (lAd _) _,⟨fun q x hx=>?_,fun q q' x x' hx hx' _=>?_,fun q x hx=>?_⟩,List.Pairwise.nil⟩
 ·cases q with
  | succ q=>simp at hx
  | zero =>
    simp at hx;subst hx;refine ⟨zz,Blk.new _ _ _,by rw [f0];rfl,f1,f2,f3,fun k hk=>?_,fun _=>f4⟩;have hn:nxt [hd w.heap.size] k 0=1:=Xt (by simp) (by omega) (by simp) (fun i h1 h2=>by omega) (fun h=>by simp at h);unfold lk0;rw [hn]
    have:=HL.out ⟨k,hk⟩
    exact this
 ·cases q <;> cases q' <;> simp at hx hx' <;> rfl
 ·cases q with
  | succ q=>simp at hx
  | zero=>simp at hx;subst hx;exact ⟨(by decide:0<32),lAd 32⟩
def Ij(F:List Nd)(l:List Nat):List Ent:=l.map fun q=>match F[q]? with|some x=>(x.m,x.s)|none=>(⟨#[]⟩,0)
theorem y4g{F:List Nd}(hp:∀ i,i<F.length->0<lev F i)(q:Nat):steps F 0 q=List.range' (q+1) (F.length-(q+1)):=by
 unfold steps;refine List.filter_eq_self.2 fun i hi=>?_;rw [List.mem_range'_1] at hi
 simpa using hp i (by omega)
variable {F:List Nd} {ah:Nat->Value} {n:Int}
theorem y3f(p:Nat)(L:List Nd)(hF:F=hd p :: L)(w:World)(hw:Sk w F (lk0 F) ah n)(f t:Int)(h:min t n<=max f 0):Calls Tryz.prog 293 #[.pointer (some ⟨p,0,none⟩),.int .i64 f,.int .i64 t] w fun e w'=>e=.returned (.slice none 0 0)/\Bl w w':=by
 have HP:=jY (M0 p L hF (hw.later ((Below.refl _ _).alloc (lAd _) (Obj.cells #[.int .i64 t] 3))) f t);generalize max f 0=a at *;generalize min t n=b at *;clear hw hF
 go_enter Tryz.func293,Tryz.ntmps293
 go_wp2_with fail;refine wp_scope_straight ?_;go_wp2_with fail;refine HP.out.mono ?_;rintro e w1 ⟨rfl,rfl⟩;go_wp2;rw [Exit.noGoto_ret];go_returns;exact ⟨rfl,(Below.refl _ _).alloc (lAd _) _⟩
theorem y8s(p:Nat)(L:List Nd)(hF:F=hd p :: L)(w:World)(hw:Sk w F (lk0 F) ah n)(hN:F.length<=1000000)(hn:n=L.length)(f t:Int)(a b:Nat)(ha:(a:Int)=max f 0)(hb:(b:Int)=min t n)(hab:a<b) :
 Calls Tryz.prog 293 #[.pointer (some ⟨p,0,none⟩),.int .i64 f,.int .i64 t] w fun e w'=>∃ r,e=.returned r/\K8 w' w.heap.size r (Ij F (List.range' (a+1) (b-a)))/\Bl w w':=by
 have hFl:F.length=L.length+1:=by rw [hF];rfl
 have hbF:b<F.length:=by omega
 have hp:=Bf hw;have hla:=Qe F hp a (by omega);have hix:=y5i F a;rw [hla] at hix;obtain ⟨x0,hx0⟩:∃ x0,F[a]?=some x0:=⟨_,lAa (by omega)⟩;have hax:=Yk hx0;unfold U7 at hix;have h00:((0:Nat):Int)=0:=rfl;simp only [hax,h00] at hix;clear h00;have hbx:Bl w (w.alloc (.cells #[.int .i64 t] 3)):=(Below.refl _ _).alloc (lAd _) _;have HP:=jY (M0 p L hF (hw.later hbx) f t);rw [<- ha,<- hb] at HP;have HT:=fun W (hb1:Bl w W)=>jY (Jm p L hF (hw.later hb1) hN a (by omega));have hxs:=y4g hp a;have hsl:F.length-(a+1)<=F.length:=Nat.sub_le _ _;have HW:=jY hw;have hab2:¬ (b:Int)<=a:=by omega
 have hlv:=hp a (by omega);rw [X8 hx0] at hlv;generalize Ys F a=WA at *;refine (callsIn_wide (n:=6)).1 (callsIn_of_wp_marks Tryz.func293 rfl trivial ?_ rfl);refine wpIn_wide.2 ?_;simp only [Tryz.ntmps293,List.size_toArray,List.length_cons,List.length_nil,Nat.reduceAdd,Nat.reduceSub,Array.replicate_succ,Array.replicate_zero,List.push_toArray,List.append_toArray,List.nil_append,List.cons_append];have hFa:F[0]?=some (hd p):=by rw [hF];rfl
 clear hw hF ha hb hn hFl;go_wp2_with fail;refine wp_scope_straight ?_;go_wp2_with fail;refine HP.out.mono ?_;rintro e w1 ⟨rfl,rfl⟩;have HBX:=jY hbx;go_wp2_with fail;refine wp_label ?_;have hb1:Bl w ((w.alloc (.cells #[.int .i64 b] 3)).alloc (.cells #[.slice none 0 0] 55)):=((Below.refl _ _).alloc (lAd _) _).alloc (by simp) _;have HT1:=HT _ hb1;have k3:=(Blk.new w 3 #[.int .i64 b]).alloc (Obj.cells #[.slice none 0 0] 55);have kR:=Blk.new (w.alloc (.cells #[.int .i64 b] 3)) 55 #[.slice none 0 0];simp only [World.size_alloc] at kR;have HB1:=jY hb1;have H3:=jY k3;have HR:=jY kR;clear HT hb1 k3 kR HP hbx HBX;go_wp2_with fail;refine HT1.out.mono ?_;rintro e w2 ⟨rfl,hb2⟩;have k3:=H3.out.later hb2;have kR:=HR.out.later hb2;have hB2:=HB1.out.trans (hb2.mono HB1.out.size);clear hb2 HT1 H3 HR HB1;have HK3:=jY k3;have HKR:=jY kR;have HB2:=jY hB2;clear k3 kR hB2;go_wp2_with fail;have hz1:=HB2.out.size;have hzr:=HKR.out.lt;have hS2:=HW.out.later HB2.out;have hseq:=Qb F ah n w2 0 a x0 (by decide) hx0 hlv hN [] hS2 (by simp) (by simp);unfold stp at hseq;rw [hax,hxs] at hseq;generalize hxn:F.length-(a+1)=xn at *
 have hxat:∀ i x,(List.range' (a+1) xn)[i]?=some x->x=a+1+i/\x<F.length/\i<xn:=fun i x h=>by
  obtain ⟨h1,h2⟩:=lAb.1 h;simp at h1 h2;omega
 refine (wpIn_wide (n:=6)).1 (Fj (gf:=224) (encs:=y7e F 0) (xs:=List.range' (a+1) xn) (L:=[]) rfl (enters_of Tryz.func224 (by kernel_rfl) rfl) hseq (fun _ _=>rfl)
  (fun i V=>∃ r,(i<=b-a/\Blk V w.heap.size 3 #[.int .i64 b]/\Blk V (w.heap.size+1) 55 #[r])/\K8 V (w.heap.size+2) r (Ij F (List.range' (a+1) i))/\Bl w V)
  (fun c _ V=>match c with
    | .exit id=>∃ r,(id=0/\Blk V (w.heap.size+1) 55 #[r])/\K8 V (w.heap.size+2) r (Ij F (List.range' (a+1) (b-a)))/\Bl w V
    | _=>False)
  ?hI ?hIx ?hIa ?hIxa ?h0 (fun _ x a' V=>∃ c,(True/\a'={ tmps:=#[.pointer (some ⟨p,0,none⟩),.int .i64 a,.int .i64 t,undef,undef,.pointer (some ⟨w.heap.size,0,none⟩),.slice none 0 0,.pointer (some ⟨w.heap.size+1,0,none⟩),.pointer (some ⟨c,0,none⟩),.tuple #[.int .i64 a,.int .i64 b],.pointer (some ⟨p,0,none⟩),.int .i64 f,.int .i64 t,.tuple #[.int .i64 a,.int .i64 b],.int .i64 a,.int .i64 b,.int .i64 a,.int .i64 b,.bool false,.pointer (some ⟨p,0,none⟩),.int .i64 a,.agg WA,.agg #[.pointer (some ⟨x0.b,0,none⟩),.int .i64 ((a:Int)-1),.int .i64 0],.func (.func 224) #[.agg #[.pointer (some ⟨x0.b,0,none⟩),.int .i64 ((a:Int)-1),.int .i64 0]] #[],stp F 0 x,undef,undef,undef,undef,undef,undef,undef,undef,undef,undef,undef,undef,undef],defers:=[] })/\Blk V c 292 (U7 F 0 x)) ?hAx ?assign ?body ?done ?stop)
 case hI=>exact Zz fun r=>((Z4 _ _).and ((Zh _ _ _ _).and (Zh _ _ _ _))).and ((z5d _ _ _ _ _).and (Ze _ w hz1))
 case hIx =>
  intro c
  cases c with
  | exit id=>exact Zz fun r=>((Z4 _ _).and (Zh _ _ _ _)).and ((z5d _ _ _ _ _).and (Ze _ w hz1))
  | _=>exact Z4 _ _
 case hIa =>
  rintro N hN2 i A B ⟨r,⟨h1,h2,h3⟩,h4,h5⟩ hab;exact ⟨r,⟨h1,h2.aside hab (by omega),h3.aside hab (by omega)⟩,z2o h4 hab (by decide),((Far.of_below (S:=fun _=>False) h5).aside hab (by omega)).below (fun _ h=>h.elim) (lAd _)⟩
 case hIxa =>
  rintro c N hN2 i A B h hab
  cases c with
  | exit id =>
    obtain ⟨r,⟨h1,h3⟩,h4,h5⟩:=h;exact ⟨r,⟨h1,h3.aside hab (by omega)⟩,z2o h4 hab (by decide),((Far.of_below (S:=fun _=>False) h5).aside hab (by omega)).below (fun _ h=>h.elim) (lAd _)⟩
  | _=>exact h
 case h0=>exact ⟨_,⟨Nat.zero_le _,HK3.out,HKR.out⟩,World.ownsRow_nil _ _ _ _,HB2.out⟩
 case hAx=>exact fun i x a'=>Zz fun c=>(Z4 _ _).and (Zh _ _ _ _)
 case assign =>
  rintro l i x V K' hx' ⟨r,⟨h1,h2,h3⟩,h4,h5⟩ hK;obtain ⟨y,hy⟩:∃ y,F[x]?=some y:=⟨_,lAa (hxat i x hx').2.1⟩;have hay:=Yk hy;have HK3':=jY hK;have HI:=jY (And.intro h1 (And.intro h2 (And.intro h3 (And.intro h4 h5))));have hsz2:w.heap.size+2<=V.heap.size:=h3.lt;have HKP:=jY hx';clear hK h1 h2 h3 h4 h5 hseq hx' hxat hS2;unfold y7e stp;rw [hay];gi_wp2;have hbV:=(Below.refl V.heap.size V).alloc (lAd _) (Obj.cells #[Value.pointer (some ⟨y.b,0,none⟩),Value.int IntKind.i64 ((x:Int)-1),Value.int IntKind.i64 0] 292);obtain ⟨h1,h2,h3,h4,h5⟩:=HI.out;refine HK3'.out _ _ (Ob hbV) (KeepC.of_below hbV) ⟨r,⟨h1,h2.later hbV,h3.later hbV⟩,Qf h4 hbV,h5.trans (hbV.mono h5.size)⟩ ⟨V.heap.size,⟨?_,?_⟩,?_⟩
  ·trivial
  ·unfold stp;rw [hay];rfl
  ·unfold U7;rw [hay];exact Blk.new _ _ _
 case body =>
  rintro l i x a' V hx' ⟨r,⟨h1,h2,h3⟩,h4,h5⟩ ⟨c,⟨_,rfl⟩,kc⟩;obtain ⟨hxe,hxl,hin⟩:=hxat i x hx';obtain ⟨y,hy⟩:∃ y,F[x]?=some y:=⟨_,lAa hxl⟩;have hay:=Yk hy;have hSV:=HW.out.later h5;obtain ⟨A,hA,hNA⟩:=hSV.node x y hy;have a0:=(hA.cell 0).trans hNA.m;have a1:=(hA.cell 1).trans hNA.s;unfold U7 at kc;rw [hay] at kc;obtain ⟨f0,f1,f2,_,_,_⟩:=Uu kc;obtain ⟨d0,d1⟩:=Z5 h2;obtain ⟨e0,e1⟩:=Z5 h3
  by_cases hib:i=b-a
  ·have hge:(b:Int)<=(x:Int)-1:=by omega
   have HH:=jY (And.intro h3 (And.intro h4 h5));clear h1 h2 h3 h4 h5 hseq hx' hxat hS2 hSV hA hNA hy a0 a1;gi_wp2;obtain ⟨g3,g4,g5⟩:=HH.out;exact ⟨KeepsFrom.refl _ _,r,⟨rfl,g3⟩,hib ▸ g4,g5⟩
  ·have hge:¬ (b:Int)<=(x:Int)-1:=by omega
   have hlt3:=h3.lt;have hmix:Tryz.prog.follows .mixedOrders=true:=by kernel_rfl
   have hel:(Ij F (List.range' (a+1) i)).length=i:=by unfold Ij;simp
   obtain ⟨g,cap,W7,hrun,hown7,hgrow⟩:=Bb h4 (Zk V 1) (y.m,y.s) (by rw [hel];omega) (by have:=h3.lt;show w.heap.size+2<=V.heap.size;omega);rw [hel] at hrun hown7;have hR7:=(h3.later (Zk V 1)).grown hgrow (Qf h4 (Zk V 1)) (by decide);have h37:=(h2.later (Zk V 1)).grown hgrow (Qf h4 (Zk V 1)) (by decide);obtain ⟨t0,t1⟩:=Z5 hR7;have HH:=jY (And.intro h2 (And.intro h3 (And.intro h4 h5)));have HO:=jY hown7;have HG:=jY hgrow;have H37:=jY h37;have HY:=jY hy;clear h1 h2 h3 h4 h5 hseq hx' hxat hS2 hSV hA hNA hy kc hown7 hgrow hR7 h37;gi_wp2;refine wpIn_region_any hmix ?_;change wpAnyIn _ _ _ _ _ _ _ _ _ (World.drew _)
   iterate 9 (
    all_goals (first|refine wpAnyIn_ready (rs:=[0,1]) (by decide +kernel) (by simp) (AllReadyIn.cons rfl (fun K hK=>?_) (AllReadyIn.cons rfl (fun K hK=>?_) AllReadyIn.nil))|refine wpAnyIn_ready (rs:=[0,2]) (by decide +kernel) (by simp) (AllReadyIn.cons rfl (fun K hK=>?_) (AllReadyIn.cons rfl (fun K hK=>?_) AllReadyIn.nil))|refine wpAnyIn_ready (rs:=[0,3]) (by decide +kernel) (by simp) (AllReadyIn.cons rfl (fun K hK=>?_) (AllReadyIn.cons rfl (fun K hK=>?_) AllReadyIn.nil))|refine wpAnyIn_ready (rs:=[0,4]) (by decide +kernel) (by simp) (AllReadyIn.cons rfl (fun K hK=>?_) (AllReadyIn.cons rfl (fun K hK=>?_) AllReadyIn.nil))|refine wpAnyIn_ready (rs:=[0,5]) (by decide +kernel) (by simp) (AllReadyIn.cons rfl (fun K hK=>?_) (AllReadyIn.cons rfl (fun K hK=>?_) AllReadyIn.nil))|refine wpAnyIn_ready (rs:=[0,6]) (by decide +kernel) (by simp) (AllReadyIn.cons rfl (fun K hK=>?_) (AllReadyIn.cons rfl (fun K hK=>?_) AllReadyIn.nil))|refine wpAnyIn_ready (rs:=[0]) (by decide +kernel) (by simp) (AllReadyIn.cons rfl (fun K hK=>?_) AllReadyIn.nil)|refine wpAnyIn_ready (rs:=[1]) (by decide +kernel) (by simp) (AllReadyIn.cons rfl (fun K hK=>?_) AllReadyIn.nil)|refine wpAnyIn_ready (rs:=[2]) (by decide +kernel) (by simp) (AllReadyIn.cons rfl (fun K hK=>?_) AllReadyIn.nil)|refine wpAnyIn_ready (rs:=[3]) (by decide +kernel) (by simp) (AllReadyIn.cons rfl (fun K hK=>?_) AllReadyIn.nil)|refine wpAnyIn_ready (rs:=[4]) (by decide +kernel) (by simp) (AllReadyIn.cons rfl (fun K hK=>?_) AllReadyIn.nil)|refine wpAnyIn_ready (rs:=[5]) (by decide +kernel) (by simp) (AllReadyIn.cons rfl (fun K hK=>?_) AllReadyIn.nil)|refine wpAnyIn_ready (rs:=[6]) (by decide +kernel) (by simp) (AllReadyIn.cons rfl (fun K hK=>?_) AllReadyIn.nil)|refine wpAnyIn_ready (rs:=[7]) (by decide +kernel) (by simp) (AllReadyIn.cons rfl (fun K hK=>?_) AllReadyIn.nil)|refine wpAnyIn_ready (rs:=[8]) (by decide +kernel) (by simp) (AllReadyIn.cons rfl (fun K hK=>?_) AllReadyIn.nil))
    all_goals (first|(refine Oi rfl _ _ 55 55 rfl rfl rfl hrun ?_;refine hK _ _ ?_;clear hK K)|(go_simp;refine hK _ _ ?_;clear hK K)))
   all_goals refine wpAnyIn_done (by decide +kernel) ?_ _
   all_goals gi_wp2
   all_goals (
    obtain ⟨g2,g3,g4,g5⟩:=HH.out;obtain ⟨z1,z2,z3,z4,z5⟩:=z3p g3 g4 (Zk V 1) HG.out HO.out (Nat.lt_succ_self _) g5 (Nat.le_succ _) (by decide) (by simp [itT]) (by simp [itT]) w2.heap.size [];refine ⟨z1,z2,_,⟨by omega,H37.out.setOther 0 _ (Nat.ne_of_lt (Nat.lt_succ_self _)),z4⟩,?_,z3⟩
    have he:Ij F (List.range' (a+1) (i+1))=Ij F (List.range' (a+1) i)++[(y.m,y.s)]:=by
     unfold Ij;rw [List.range'_concat,List.map_append,Nat.one_mul,<- hxe];simp [HY.out]
    rw [he]
    exact z5)
 case done =>
  rintro Dd V hD ⟨r,⟨h1,h2,h3⟩,h4,h5⟩ hVD;clear hseq;have hlen:(List.range' (a+1) xn).length=b-a:=by simp at h1 ⊢;omega
  rw [hlen] at h4;obtain ⟨g0,g1⟩:=Z5 h3;have HK:=jY hVD;have HO:=jY h4;have H5:=jY h5;clear h1 h2 h3 h4 h5 hVD;simp only [Exit.inBlock,Exit.then];go_wp2;have hfin:(V.putObj Dd (.deferred none)).ownsRow w.heap.size 94 2 r _ _:=J6 (ownsRow_putObj HO.out _ HK.out rfl) (by omega);rw [Exit.noGoto_ret];exact Y5 (v:=r) rfl HK.out (by simp [results,Tryz.results293,go_sem]) ⟨_,rfl,hfin,Zg H5.out (by omega) _⟩
 case stop =>
  rintro Dd c i V hD h hVD
  cases c with
  | exit id =>
    obtain ⟨r,⟨rfl,h3⟩,h4,h5⟩:=h;clear hseq;obtain ⟨g0,g1⟩:=Z5 h3;have HK:=jY hVD;have HO:=jY h4;have H5:=jY h5;clear h3 h4 h5 hVD;refine wpIn_wide.2 ?_;go_wp2;have hfin:(V.putObj Dd (.deferred none)).ownsRow w.heap.size 94 2 r _ _:=J6 (ownsRow_putObj HO.out _ HK.out rfl) (by omega);rw [Exit.noGoto_ret];exact Y5 (v:=r) rfl HK.out (by simp [results,Tryz.results293,go_sem]) ⟨_,rfl,hfin,Zg H5.out (by omega) _⟩
  | _=>exact h.elim
end Go.Proofs.YtcklcmafohlflaaGreatDoor.Sk

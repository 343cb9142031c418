/- Texts of one kind in one: ZMath, SkRange, SkLink, SkMem, SkForth, SkWay. -/
import Derived.Test.YtcklcmafohlflaaGreatDoorQShelf07
import Derived.Deep.WholeRow
import Derived.Deep.MidRow
set_option maxRecDepth 200000
set_option maxHeartbeats 8000000
namespace Go.Proofs.YtcklcmafohlflaaGreatDoor
open Zc (Ent Ext KeepC Ym Z9 Zg Xg Zx Zb Zv Yo Y5 Ze Zz Z4 Zd)
abbrev En:=ByteArray × Int
def Yc(m:ByteArray)(s:Int)(m':ByteArray)(s':Int):Bool:=decide (s<s'\/s=s'/\m.data.toList<m'.data.toList)
theorem z7y(a:ByteArray)(s:Int):Yc a s a s=false:=by
 simp only [Yc,decide_eq_false_iff_not];rintro (h|⟨_,h⟩)
 ·omega
 ·exact List.lt_irrefl _ h
theorem z4u{a b c:ByteArray}{s t u:Int}(h:Yc a s b t=true)(g:Yc b t c u=true):Yc a s c u=true:=by
 simp only [Yc,decide_eq_true_eq] at *;rcases h with h|⟨h,h'⟩ <;> rcases g with g|⟨g,g'⟩
 ·exact .inl (by omega)
 ·exact .inl (by omega)
 ·exact .inl (by omega)
 ·exact .inr ⟨by omega,List.lt_trans h' g'⟩
theorem z4t(a b:ByteArray)(s t:Int)(h:Yc a s b t=false)(hn:¬ (a=b/\s=t)):Yc b t a s=true:=by
 simp only [Yc,decide_eq_false_iff_not,decide_eq_true_eq] at *
 by_cases e:s=t
 ·right
  refine ⟨e.symm,?_⟩;have h1:¬ a.data.toList<b.data.toList:=fun h2=>h (.inr ⟨e,h2⟩);have h2:a.data.toList≠b.data.toList:=fun h2=>hn ⟨by cases a;cases b;simp at h2;rw [h2],e⟩;rcases Std.le_total (a:=a.data.toList) (b:=b.data.toList) with h3|h3
  ·exact absurd (Std.lt_of_le_of_ne h3 h2) h1
  ·exact Std.lt_of_le_of_ne h3 (Ne.symm h2)
 ·left
  have:¬ s<t:=fun h2=>h (.inl h2)
  omega
def O6(E:List En):Prop:=E.Pairwise fun x y=>Yc x.1 x.2 y.1 y.2=true
def Vk(E:List En):Prop:=E.Pairwise fun x y=>x.1≠y.1
def Vq(E:List En)(m:ByteArray)(s:Int):Nat:=(E.takeWhile fun x=>Yc x.1 x.2 m s).length
def Vy(E:List En)(m:ByteArray)(s:Int):List En:=E.take (Vq E m s)++(m,s) :: E.drop (Vq E m s)
def rmE(E:List En)(m:ByteArray):List En:=E.filter fun x=>decide (x.1≠m)
def Vd(E:List En)(m:ByteArray)(s:Int):List En:=Vy (rmE E m) m s
def Pp(E:List En)(m:ByteArray):Bool:=E.any fun x=>decide (x.1=m)
def whE(E:List En)(m:ByteArray):Option Nat:=E.findIdx? fun x=>decide (x.1=m)
theorem Bh(E:List En)(m:ByteArray)(s:Int):Vq E m s<=E.length:=by
 unfold Vq;exact (List.takeWhile_sublist _).length_le
theorem M1{E:List En}(hs:O6 E)(m:ByteArray)(s:Int):∀ (i:Nat) (x:En),E[i]?=some x->Yc x.1 x.2 m s=decide (i<Vq E m s):=by
 induction E with
 | nil=>intro i x h;simp at h
 | cons y E ih =>
   intro i x h;have hs':O6 E:=(List.pairwise_cons.1 hs).2
   by_cases hy:Yc y.1 y.2 m s=true
   ·have hp:Vq (y :: E) m s=Vq E m s+1:=by simp [Vq,hy]
    rw [hp]
    cases i with
    | zero=>simp at h;subst h;simpa using hy
    | succ i =>
      rw [ih hs' i x (by simpa using h)];simp
   ·have hp:Vq (y :: E) m s=0:=by simp [Vq,hy]
    rw [hp];have hy':Yc y.1 y.2 m s=false:=by simpa using hy
    cases i with
    | zero=>simp at h;subst h;simpa using hy'
    | succ i =>
      have hx:x∈E:=lAc (by simpa using h:E[i]?=some x)
      have:=(List.pairwise_cons.1 hs).1 x hx
      cases hxe:Yc x.1 x.2 m s with
      | false=>simp
      | true=>exact absurd (z4u this hxe) hy
theorem Fb{E:List En}{m:ByteArray}{s:Int}{x:En}:x∈Vy E m s↔x=(m,s)\/x∈E:=by
 have h0:x∈E↔x∈E.take (Vq E m s)\/x∈E.drop (Vq E m s):=by
  rw [<- List.mem_append,List.take_append_drop]
 unfold Vy;rw [List.mem_append,List.mem_cons,h0]
 constructor
 ·rintro (h|h|h)
  ·exact .inr (.inl h)
  ·exact .inl h
  ·exact .inr (.inr h)
 ·rintro (h|h|h)
  ·exact .inr (.inl h)
  ·exact .inl h
  ·exact .inr (.inr h)
theorem z2s(E:List En)(m:ByteArray)(s:Int):(Vy E m s).Perm ((m,s) :: E):=by
 unfold Vy;refine List.perm_middle.trans ?_;rw [List.take_append_drop]
theorem Fi(E:List En)(m:ByteArray)(s:Int):(Vy E m s).length=E.length+1:=(z2s E m s).length_eq
theorem x5z{E:List En}(hs:O6 E)(m:ByteArray)(s:Int)(hn:(m,s) ∉ E):O6 (Vy E m s):=by
 have hsp:=M1 hs m s;unfold Vy;refine List.pairwise_append.2 ⟨hs.sublist (List.take_sublist _ _),List.pairwise_cons.2 ⟨fun y hy=>?_,hs.sublist (List.drop_sublist _ _)⟩,fun y hy z hz=>?_⟩
 ·have hyE:y∈E:=List.mem_of_mem_drop hy;obtain ⟨i,hi⟩:=List.mem_iff_getElem?.1 hy;rw [List.getElem?_drop] at hi;have h1:=hsp _ y hi;rw [show decide (Vq E m s+i<Vq E m s)=false by simp] at h1;exact z4t _ _ _ _ h1 (fun e=>hn (by have e1:y=(m,s):=Prod.ext e.1 e.2;rw [<- e1];exact hyE))
 ·have hy1:Yc y.1 y.2 m s=true:=by
   obtain ⟨i,hi⟩:=List.mem_iff_getElem?.1 hy;have hil:=(lAb.1 hi).1;rw [List.length_take] at hil;rw [List.getElem?_take_of_lt (by omega)] at hi;rw [hsp i y hi]
   simp;omega
  rcases List.mem_cons.1 hz with rfl|hz
  ·exact hy1
  ·obtain ⟨i,hi⟩:=List.mem_iff_getElem?.1 hy;obtain ⟨j,hj⟩:=List.mem_iff_getElem?.1 hz;have hil:=(lAb.1 hi).1;rw [List.length_take] at hil;rw [List.getElem?_take_of_lt (by omega)] at hi;rw [List.getElem?_drop] at hj;obtain ⟨hi1,hi2⟩:=lAb.1 hi;obtain ⟨hj1,hj2⟩:=lAb.1 hj
   have:=List.pairwise_iff_getElem.1 hs i _ hi1 hj1 (by omega)
   rw [hi2,hj2] at this;exact this
theorem z6y(E:List En):Vk E↔(E.map (·.1)).Nodup:=by unfold Vk List.Nodup;rw [List.pairwise_map]
theorem y7b{E:List En}(hd:Vk E)(m:ByteArray)(s:Int)(hn:∀ x∈E,x.1≠m):Vk (Vy E m s):=by
 have h:=z2s E m s;rw [z6y,(h.map (·.1)).nodup_iff,<- z6y];exact List.pairwise_cons.2 ⟨fun y hy e=>hn y hy e.symm,hd⟩
theorem I3{E:List En}{m:ByteArray}{x:En}:x∈rmE E m↔x∈E/\x.1≠m:=by unfold rmE;simp [List.mem_filter]
theorem z6f{E:List En}(hs:O6 E)(m:ByteArray):O6 (rmE E m):=hs.sublist List.filter_sublist
theorem z6z{E:List En}(hd:Vk E)(m:ByteArray):Vk (rmE E m):=hd.sublist List.filter_sublist
theorem Ve{E:List En}{m:ByteArray}(h:∀ x∈E,x.1≠m):rmE E m=E:=by
 unfold rmE;exact List.filter_eq_self.2 fun x hx=>by simpa using h x hx
theorem C7{E:List En}(hd:Vk E){i:Nat}{x:En}(hx:E[i]?=some x):rmE E x.1=E.take i++E.drop (i+1):=by
 obtain ⟨hi,he⟩:=lAb.1 hx;have h1:E=E.take i++x :: E.drop (i+1):=by rw [<- he,<- List.drop_eq_getElem_cons hi,List.take_append_drop]
 have hd2:Vk (E.take i++x :: E.drop (i+1)):=by rw [<- h1];exact hd
 obtain ⟨_,h3,h4⟩:=List.pairwise_append.1 hd2;have h5:=(List.pairwise_cons.1 h3).1;have e1:rmE (E.take i) x.1=E.take i:=Ve fun y hy=>h4 y hy x (List.mem_cons_self ..);have e2:rmE (E.drop (i+1)) x.1=E.drop (i+1):=Ve fun y hy e=>h5 y hy e.symm;have e3:rmE E x.1=rmE (E.take i++x :: E.drop (i+1)) x.1:=by rw [<- h1]
 rw [e3];unfold rmE at *;rw [List.filter_append,List.filter_cons_of_neg (by simp),e1,e2]
theorem Uh{E:List En}{m:ByteArray}{i:Nat}(h:whE E m=some i):∃ s,E[i]?=some (m,s):=by
 unfold whE at h;obtain ⟨hi,h1,_⟩:=List.findIdx?_eq_some_iff_getElem.1 h;refine ⟨E[i].2,?_⟩;rw [lAa hi]
 have:E[i].1=m:=by simpa using h1
 rw [<- this]
theorem V7{E:List En}{m:ByteArray}(h:whE E m=none):∀ x∈E,x.1≠m:=by
 unfold whE at h;rw [List.findIdx?_eq_none_iff] at h;intro x hx
 simpa using h x hx
theorem v3e{E:List En}(hd:Vk E){i:Nat}{x:En}(hx:E[i]?=some x):whE E x.1=some i:=by
 cases h:whE E x.1 with
 | none=>exact absurd rfl (V7 h x (lAc hx))
 | some j =>
   obtain ⟨s,hs⟩:=Uh h;obtain ⟨hi,he⟩:=lAb.1 hx;obtain ⟨hj,he2⟩:=lAb.1 hs;rcases Nat.lt_trichotomy i j with h|h|h
   ·exact absurd (by rw [he,he2]) (List.pairwise_iff_getElem.1 hd i j hi hj h)
   ·rw [h]
   ·exact absurd (by rw [he,he2]) (List.pairwise_iff_getElem.1 hd j i hj hi h)
theorem Af{E:List En}{m:ByteArray}:Pp E m=true↔∃ s,(m,s)∈E:=by
 unfold Pp;rw [List.any_eq_true]
 constructor
 ·rintro ⟨x,hx,h⟩
  have:x.1=m:=by simpa using h
  exact ⟨x.2,by rw [<- this];exact hx⟩
 ·rintro ⟨s,hs⟩;exact ⟨_,hs,by simp⟩
theorem O9(E:List En)(m:ByteArray):Pp E m=(whE E m).isSome:=by
 cases h:whE E m with
 | none =>
   cases h2:Pp E m with
   | false=>rfl
   | true=>obtain ⟨s,hs⟩:=Af.1 h2;exact absurd rfl (V7 h _ hs)
 | some i =>
   obtain ⟨s,hs⟩:=Uh h;exact Af.2 ⟨s,lAc hs⟩
theorem C2{E:List En}(hs:O6 E){i:Nat}{x:En}(hx:E[i]?=some x):Vq E x.1 x.2=i:=by
 have h1:=M1 hs x.1 x.2 i x hx;rw [z7y] at h1;have h2:¬ i<Vq E x.1 x.2:=by simpa using h1.symm
 obtain ⟨hi,he⟩:=lAb.1 hx;rcases Nat.lt_or_ge (Vq E x.1 x.2) i with h|h
 ·have hj:E[Vq E x.1 x.2]?=some E[Vq E x.1 x.2]:=lAa (by omega);have h4:=M1 hs x.1 x.2 _ _ hj;have h5:=List.pairwise_iff_getElem.1 hs (Vq E x.1 x.2) i (by omega) hi h;rw [he,h4] at h5;simp at h5
 ·omega
theorem Kj{E:List En}(hd:Vk E)(m:ByteArray)(s:Int):(Vd E m s).length=if Pp E m then E.length else E.length+1:=by
 unfold Vd;rw [Fi,O9]
 cases h:whE E m with
 | none=>rw [Ve (V7 h)];rfl
 | some i =>
   obtain ⟨t,ht⟩:=Uh h;have hi:=(lAb.1 ht).1
   have:=C7 hd ht
   simp only at this;rw [this];simp;omega
theorem y6b{E:List En}(hd:Vk E)(m:ByteArray):(rmE E m).length=if Pp E m then E.length-1 else E.length:=by
 have h1:=Kj hd m 0;unfold Vd at h1;rw [Fi] at h1
 cases h:Pp E m with
 | true=>rw [h] at h1;simp at h1 ⊢;omega
 | false=>rw [h] at h1;simp at h1 ⊢;omega
theorem x5x{E:List En}(hs:O6 E)(m:ByteArray)(s:Int):O6 (Vd E m s):=x5z (z6f hs m) m s fun h=>(I3.1 h).2 rfl
theorem y6z{E:List En}(hd:Vk E)(m:ByteArray)(s:Int):Vk (Vd E m s):=y7b (z6z hd m) m s fun _ h=>(I3.1 h).2
theorem Al{E:List En}{m:ByteArray}{s:Int}{x:En}:x∈Vd E m s↔x=(m,s)\/x∈E/\x.1≠m:=by unfold Vd;rw [Fb,I3]
def MapOf(m:ByteArray->Option Int)(E:List En):Prop:=∀ k v,m k=some v↔(k,v)∈E
def z1d(m:ByteArray->Option Int)(key:ByteArray)(v:Int):ByteArray->Option Int:=fun k=>if k=key then some v else m k
def z5w(m:ByteArray->Option Int)(key:ByteArray):ByteArray->Option Int:=fun k=>if k=key then none else m k
theorem MapOf.put{m:ByteArray->Option Int}{E:List En}(h:MapOf m E)(k:ByteArray)(v:Int):MapOf (z1d m k v) (Vd E k v):=fun k' v'=>by
 rw [Al,<- h k' v'];unfold z1d
 by_cases e:k'=k
 ·subst e;simp [eq_comm]
 ·simp [e]
theorem MapOf.rem{m:ByteArray->Option Int}{E:List En}(h:MapOf m E)(k:ByteArray):MapOf (z5w m k) (rmE E k):=fun k' v'=>by
 rw [I3,<- h k' v'];unfold z5w
 by_cases e:k'=k
 ·subst e;simp
 ·simp [e]
def Io(E:List En)(l:List En):List En:=l.foldl (fun E x=>rmE E x.1) E
def remAll(m:ByteArray->Option Int)(l:List En):ByteArray->Option Int:=l.foldl (fun m x=>z5w m x.1) m
theorem MapOf.remAll{l:List En}:∀ {m:ByteArray->Option Int} {E:List En},MapOf m E->MapOf (remAll m l) (Io E l):=by
 induction l with
 | nil=>intro m E h;exact h
 | cons x l ih=>intro m E h;exact ih (h.rem x.1)
theorem y9a{A M B:List En}(hd:Vk (A++M++B)):Io (A++M++B) M=A++B:=by
 induction M generalizing A with
 | nil=>simp [Io]
 | cons x M ih =>
   show Io (rmE (A++(x :: M)++B) x.1) M=_;have h1:(A++(x :: M)++B)[A.length]?=some x:=by simp
   rw [C7 hd h1];have h2:(A++x :: M++B).take A.length=A:=by simp
   have h3:(A++x :: M++B).drop (A.length+1)=M++B:=by simp [List.drop_append]
   rw [h2,h3,<- List.append_assoc];refine ih ?_;refine hd.sublist ?_;simp
def f0(f:Int):Nat:=(max f 0).toNat
def t0(t:Int)(n:Nat):Nat:=(min t n).toNat
def Ua(E:List En)(f t:Int):List En:=(E.drop (f0 f)).take (t0 t E.length-f0 f)
def Qa(E:List En)(f t:Int):List En:=if f0 f<t0 t E.length then E.take (f0 f)++E.drop (t0 t E.length) else E
theorem P0(E:List En)(f t:Int):(Ua E f t).length=t0 t E.length-f0 f:=by
 unfold Ua;rw [List.length_take,List.length_drop];unfold t0;omega
theorem z9x(E:List En):Ua E 0 E.length=E:=by
 unfold Ua f0 t0;simp
theorem z6h(E:List En)(f t:Int)(h:f0 f<t0 t E.length):E=E.take (f0 f)++Ua E f t++E.drop (t0 t E.length):=by
 unfold Ua
 have h1:(E.drop (f0 f)).drop (t0 t E.length-f0 f)=E.drop (t0 t E.length):=by
  rw [List.drop_drop];congr 1;omega
 rw [<- h1,List.append_assoc,List.take_append_drop,List.take_append_drop]
theorem z2u{E:List En}(hd:Vk E)(f t:Int):Io E (Ua E f t)=Qa E f t:=by
 unfold Qa
 by_cases h:f0 f<t0 t E.length
 ·rw [if_pos h];have h1:=z6h E f t h;have hd2:=hd;rw [h1] at hd2
  have:=y9a hd2
  rw [<- h1] at this;exact this
 ·rw [if_neg h]
  have:Ua E f t=[]:=List.eq_nil_of_length_eq_zero (by rw [P0];omega)
  rw [this];rfl
theorem z6x(E:List En)(f t:Int):(Qa E f t).length=E.length-(Ua E f t).length:=by
 unfold Qa;rw [P0]
 split
 ·simp;unfold t0 at *;omega
 ·omega
theorem x5y{E:List En}(hs:O6 E)(f t:Int):O6 (Qa E f t):=by
 unfold Qa
 split
 ·next h =>
  refine hs.sublist ?_
  conv=>rhs;rw [z6h E f t h,List.append_assoc]
  exact (List.Sublist.refl _).append (List.sublist_append_right _ _)
 ·exact hs
theorem y7a{E:List En}(hs:Vk E)(f t:Int):Vk (Qa E f t):=by
 unfold Qa
 split
 ·next h =>
  refine hs.sublist ?_
  conv=>rhs;rw [z6h E f t h,List.append_assoc]
  exact (List.Sublist.refl _).append (List.sublist_append_right _ _)
 ·exact hs
theorem x3q{E:List En}{f t:Int}{x:En}(h:x∈Qa E f t):x∈E:=by
 unfold Qa at h
 split at h
 ·rcases List.mem_append.1 h with h|h
  ·exact List.mem_of_mem_take h
  ·exact List.mem_of_mem_drop h
 ·exact h
theorem x7l{E:List En}(hd:Vk E){i:Nat}{x:En}(hx:E[i]?=some x):Qa E i (i+1:Int)=rmE E x.1:=by
 have hi:=(lAb.1 hx).1;have e1:f0 (i:Int)=i:=by unfold f0;omega
 have e2:t0 ((i:Int)+1) E.length=i+1:=by unfold t0;omega
 unfold Qa;rw [e1,e2,if_pos (by omega),C7 hd hx]
end Go.Proofs.YtcklcmafohlflaaGreatDoor
namespace Go.Proofs.YtcklcmafohlflaaGreatDoor.Sk
open Zc
open Go.RowKit Go.Shelf
attribute [local go_sem] Oper.semAt_some
def itT(t:TypeId):Prop:=t=292\/t=260\/t=263\/t=265
structure Aside (N:Nat) (A B:World):Prop where
 os:B.os=A.os
 tape:B.tape=A.tape
 output:B.output=A.output
 size:A.heap.size<=B.heap.size
 block:∀ k o,A.heap[k]?=some o->(k<N\/∀ c,o≠.cells c 292 (0,0))->B.heap[k]?=some o
theorem Aside.of_below{N:Nat}{A B:World}(h:Bl A B):Aside N A B:=⟨h.os,h.tape,h.output,h.size,fun k _ hk _=>(h.block k (Array.getElem?_eq_some_iff.1 hk).1).trans hk⟩
theorem Aside.trans{N:Nat}{A B C:World}(h:Aside N A B)(g:Aside N B C):Aside N A C:=⟨g.os.trans h.os,g.tape.trans h.tape,g.output.trans h.output,lAe h.size g.size,fun k o hk hn=>g.block k o (h.block k o hk hn) hn⟩
theorem Aside.set{N:Nat}(W:World)(b o:Nat)(v:Value){c:Array Value}(hb:W.heap[b]?=some (.cells c 292 (0,0)))(hn:N<=b):Aside N W (W.setCell ⟨b,o,none⟩ v) :=
 ⟨rfl,rfl,rfl,by simp [World.setCell],fun k o' hk h=>by
   have hne:k≠b:=fun e=>by
    subst e;rw [hb] at hk
    cases hk
    rcases h with h|h
    ·omega
    ·exact h _ rfl
   exact (Below.heap_setCell _ _ _ k hne).trans hk⟩
def Q8(N:Nat)(J:Nat->World->Prop):Prop:=∀ i A B,J i A->Aside N A B->J i B
def y6s{α:Type}(P:Program)(g:Nat)(fb lb:Array Value)(encs:Nat->α->Array Value)(xs:List α)(L:List Nat)(w:World):Prop :=
 ∀ (l:Nat) (J Jx:Nat->World->Prop) (W:World),Bl w W->Q8 W.heap.size J->Q8 W.heap.size Jx ->
  (∀ i x W1,xs[i]?=some x->J i W1->YieldAt Fence.wide 4 P l (encs i x) W1 (Ym itT L J Jx i W1))->J 0 W ->
  CallsIn Fence.wide 5 P g (fb++#[.func (.yield l) #[] #[]]++lb) W fun e W'=>(∃ v,e=.returned v)/\(J xs.length W'\/∃ i,Jx i W')
theorem Fj{α:Type}{P:Program}{g:Operand}{ps:Array Tmp}{assign body:Code}{Q:Exit->Act->World->Prop}{a:Act}{w:World}
 {gf:Nat} {fb lb:Array Value} (hg:a.eval g=.func (.func gf) fb lb) (eg:∀ args w,(callFunc gf args).run P w=.ok (.enter gf args) w)
 {encs:Nat->α->Array Value} {xs:List α} {L:List Nat} (hseq:y6s P gf fb lb encs xs L w) (hps:∀ i x,(encs i x).size=ps.size)
 (I:Nat->World->Prop) (Ix:Code->Nat->World->Prop) (hI:OwnFrom w.heap.size I) (hIx:∀ c,OwnFrom w.heap.size (Ix c)) (hIa:∀ N,w.heap.size<=N->Q8 N I) (hIxa:∀ c N,w.heap.size<=N->Q8 N (Ix c)) (h0:I 0 w)
 (Ax:Nat->α->Act->World->Prop) (hAx:∀ i x a',OwnFrom w.heap.size (fun (_:Unit) W=>Ax i x a' W))
 (hassign:∀ (l i:Nat) (x:α) (W:World) (K:Act->World->Prop),xs[i]?=some x->I i W->(∀ a' W',KeepsFrom w.heap.size W W'->KeepC itT L W W'->I i W'->Ax i x a' W'->K a' W') ->
   assign.wpIn (Fence.wide.inRound l) 4 P (Exit.then K (fun _ _ _=>False)) { tmps:=(ps.zip (encs i x)).foldl (fun t (p,v)=>t.setIfInBounds p v) a.tmps,defers:=[] } W)
 (hbody:∀ (l i:Nat) (x:α) (a':Act) (W:World),xs[i]?=some x->I i W->Ax i x a' W->body.wpIn (Fence.wide.inRound l) 4 P (Xg itT w.heap.size L I Ix i W) a' W)
 (hdone:∀ (D:Nat) (W:World),w.heap.size<=D->I xs.length W->W.heap[D]?=some (.deferred (some []))->Q .normal { a with defers:={ target:=.collected D,args:=#[] } :: a.defers } W)
 (hstop:∀ (D:Nat) (c:Code) (i:Nat) (W:World),w.heap.size<=D->Ix c i W->W.heap[D]?=some (.deferred (some []))->c.wpIn Fence.wide 6 P Q { a with defers:={ target:=.collected D,args:=#[] } :: a.defers } W) :
 (Code.rangeFunc g ps assign body).wpIn Fence.wide 6 P Q a w:=by
 refine wpIn_rangeFunc ?_;intro fn hfn;obtain ⟨rc,hrc⟩:∃ rc:LoopState->Option Code->Loop,rc=fun st pe=>{ state:=st,pending:=pe,fn,tmps:=a.tmps,params:=ps,assign,body,defers:=w.heap.size }:=⟨_,rfl⟩;obtain ⟨W1,hW1⟩:∃ W1,(w.alloc (.deferred (some []))).alloc (.loop (rc .ready none))=W1:=⟨_,rfl⟩;have hL1:W1.heap[w.heap.size+1]?=some (.loop (rc .ready none)):=by rw [<- hW1];exact Zv (by simp)
 have hK1:W1.heap[w.heap.size]?=some (.deferred (some [])):=by rw [<- hW1];exact (Below.heap_alloc _ _ _ (by simp)).trans (Zv rfl)
 have hI1:I 0 W1:=by rw [<- hW1];exact hI.alloc _ (hI.alloc _ h0)
 have hb1:Bl w W1:=by rw [<- hW1];exact ((Below.refl _ w).alloc (lAd _) _).alloc (by simp) _
 have hs1:w.heap.size+2=W1.heap.size:=by rw [<- hW1];simp
 have hIb:=hIa W1.heap.size (by omega);have hIxb:=fun c=>hIxa c W1.heap.size (by omega)
 refine ⟨w.heap.size+1,[{ target:=.collected w.heap.size,args:=#[] }],W1,{ target:=.fn (.func gf) lb,args:=fb++#[.func (.yield (w.heap.size+1)) #[] #[]] },W1,gf,
  fb++#[.func (.yield (w.heap.size+1)) #[] #[]]++lb,W1,?_,?_,?_,?_,fun _=>by decide,?_⟩
 ·rw [<- hW1,hrc];exact run_enterLoop_outer _ _ _ _ _
 ·simp only [resolve,hg];simp [go_sem]
 ·intro f' _;trivial
 ·simp [invoke,go_sem,eg]
 ·have keep:∀ {A B:World} {k:Nat} {o:Obj},Aside W1.heap.size A B->k<W1.heap.size->A.heap[k]?=some o->B.heap[k]?=some o:=fun hb hl hk=>hb.block _ _ hk (.inl hl)
  refine (hseq (w.heap.size+1)
   (fun i W=>I i W/\W.heap[w.heap.size+1]?=some (.loop (rc .ready none))/\W.heap[w.heap.size]?=some (.deferred (some [])))
   (fun i W=>∃ c,Ix c i W/\W.heap[w.heap.size+1]?=some (.loop (rc .done (some c)))/\W.heap[w.heap.size]?=some (.deferred (some [])))
   W1 hb1
   (fun i A B hs hb=>⟨hIb i A B hs.1 hb,keep hb (by omega) hs.2.1,keep hb (by omega) hs.2.2⟩)
   (fun i A B hs hb=>by obtain ⟨c,h1,h2,h3⟩:=hs;exact ⟨c,hIxb c i A B h1 hb,keep hb (by omega) h2,keep hb (by omega) h3⟩)
   ?_ ⟨hI1,hL1,hK1⟩).mono ?_
  ·rintro i x W hx ⟨hi,hl,hk⟩;have hy:=run_yield (P:=P) (args:=encs i x) hl (by rw [hrc];exact hps i x);rw [hrc] at hy;refine ⟨fn,_,assign,body,hy,roundIn_of_wpIn hfn (hassign _ i x W _ hx hi ?_)⟩;clear hy;intro a' Wa hkfa hkpa hia hax;have hla:=hkfa.same _ _ (by omega) hl rfl;have hka:=hkfa.same _ _ (lAd _) hk rfl;have hlt:w.heap.size+1<Wa.heap.size:=(Array.getElem?_eq_some_iff.1 hla).1;refine ⟨_,run_beginRound hla (by rw [hrc]),?_⟩;have hl2:(Wa.putObj (w.heap.size+1) (.loop { rc .ready none with state:=.busy })).heap[w.heap.size+1]?=some (.loop { rc .ready none with state:=.busy }):=World.putObj_heap_same hlt;have hk2:(Wa.putObj (w.heap.size+1) (.loop { rc .ready none with state:=.busy })).heap[w.heap.size]?=some (.deferred (some [])):=(World.putObj_heap_other (by omega)).trans hka;have hw2:KeepC itT L Wa (Wa.putObj (w.heap.size+1) (.loop { rc .ready none with state:=.busy })):=KeepC.put _ _ _ _ hla rfl;refine wpIn_mono (hbody _ i x a' _ hx (hI.putObj _ hia (by omega) hla rfl) ((hAx i x a').putObj (s:=()) _ hax (by omega) hla rfl)) ?_
   have fin:∀ (jump:Option Code) (W3:World),KeepsFrom w.heap.size (Wa.putObj (w.heap.size+1) (.loop { rc .ready none with state:=.busy })) W3 ->
    (Instr.endRound (w.heap.size+1) jump).run P W3=.ok (.bool jump.isNone) (W3.putObj (w.heap.size+1) (.loop (rc (if jump.isNone then .ready else .done) jump))) /\
    W3.heap[w.heap.size+1]?=some (.loop { rc .ready none with state:=.busy }) /\
    (W3.putObj (w.heap.size+1) (.loop (rc (if jump.isNone then .ready else .done) jump))).heap[w.heap.size+1]?=some (.loop (rc (if jump.isNone then .ready else .done) jump)) /\
    (W3.putObj (w.heap.size+1) (.loop (rc (if jump.isNone then .ready else .done) jump))).heap[w.heap.size]?=some (.deferred (some [])):=fun jump W3 hk3=>by
    have hl3:=hk3.same _ _ (by omega) hl2 rfl
    have:=run_endRound (P:=P) jump hl3
    rw [hrc] at this ⊢;exact ⟨this,by rw [hrc] at hl3;exact hl3,World.putObj_heap_same (Array.getElem?_eq_some_iff.1 hl3).1,(World.putObj_heap_other (by omega)).trans (hk3.same _ _ (lAd _) hk2 rfl)⟩
   rintro e a3 W3 hp
   cases e with
   | normal =>
     obtain ⟨hk3,hkp3,hi3⟩:=hp;obtain ⟨hr,hl3,hl4,hk4⟩:=fin none W3 hk3;exact ⟨_,_,hr,.inl ⟨rfl,⟨hI.putObj _ hi3 (by omega) hl3 rfl,hl4,hk4⟩,hkpa.trans ((hw2.trans hkp3).trans (KeepC.put _ _ _ _ hl3 rfl))⟩⟩
   | ret =>
     obtain ⟨hk3,hi3⟩:=hp;obtain ⟨hr,hl3,hl4,hk4⟩:=fin (some .ret) W3 hk3;exact ⟨_,_,hr,.inr ⟨rfl,.ret,(hIx _).putObj _ hi3 (by omega) hl3 rfl,hl4,hk4⟩⟩
   | exit id =>
     obtain ⟨hk3,hi3⟩:=hp;obtain ⟨hr,hl3,hl4,hk4⟩:=fin (some (.exit id)) W3 hk3;exact ⟨_,_,hr,.inr ⟨rfl,.exit id,(hIx _).putObj _ hi3 (by omega) hl3 rfl,hl4,hk4⟩⟩
   | goto t=>exact hp.elim
   | panic ch=>exact hp.elim
   | outgrown=>exact hp.elim
  ·rintro e W2 ⟨⟨v,rfl⟩,(⟨hi,hl,hk⟩|⟨i,c,hi,hl,hk⟩)⟩
   ·exact ⟨none,_,by have:=run_endLoop (P:=P) hl (by rw [hrc];simp);rw [hrc] at this;exact this,hdone _ _ (lAd _) (hI.putObj _ hi (by omega) hl rfl) ((World.putObj_heap_other (by omega)).trans hk)⟩
   ·exact ⟨some c,_,by have:=run_endLoop (P:=P) hl (by rw [hrc];simp);rw [hrc] at this;exact this,hstop _ c i _ (lAd _) ((hIx c).putObj _ hi (by omega) hl rfl) ((World.putObj_heap_other (by omega)).trans hk)⟩
def Blk(W:World)(b:Nat)(t:TypeId)(c:Array Value):Prop:=W.heap[b]?=some (Obj.cells c t (0,0))
theorem Blk.lt{W:World}{b:Nat}{t:TypeId}{c:Array Value}(h:Blk W b t c):b<W.heap.size:=(Array.getElem?_eq_some_iff.1 h).1
theorem Blk.cell{W:World}{b:Nat}{t:TypeId}{c:Array Value}(o:Nat)(h:Blk W b t c):W.cell? ⟨b,o,none⟩=c[o]?:=by
 unfold Blk at h;simp [World.cell?,h]
theorem Blk.free{W:World}{b:Nat}{t:TypeId}{c:Array Value}(o:Nat)(h:Blk W b t c):W.frozen? ⟨b,o,none⟩=false:=by
 unfold Blk at h;simp [World.frozen?,h]
theorem Blk.below{W W':World}{b n:Nat}{t:TypeId}{c:Array Value}(h:Blk W b t c)(hb:Below n W W')(hn:b<n):Blk W' b t c:=(hb.block b hn).trans h
theorem Blk.later{W W':World}{b:Nat}{t:TypeId}{c:Array Value}(h:Blk W b t c)(hb:Bl W W'):Blk W' b t c:=h.below hb h.lt
theorem Blk.keep{W W':World}{L:List Nat}{b:Nat}{t:TypeId}{c:Array Value}(h:Blk W b t c)(hk:KeepC itT L W W')(hn:b ∉ L)(ht:itT t:=by first|exact .inl rfl|exact .inr (.inl rfl)|exact .inr (.inr (.inl rfl))|exact .inr (.inr (.inr rfl))):Blk W' b t c:=hk.same b c t hn ht h
theorem Blk.new(W:World)(t:TypeId)(c:Array Value):Blk (W.alloc (.cells c t)) W.heap.size t c:=Zv rfl
theorem Blk.alloc{W:World}{b:Nat}{t:TypeId}{c:Array Value}(h:Blk W b t c)(o:Obj):Blk (W.alloc o) b t c:=(Below.heap_alloc _ _ _ h.lt).trans h
theorem Blk.set{W:World}{b:Nat}{t:TypeId}{c:Array Value}(o:Nat)(v:Value)(h:Blk W b t c):Blk (W.setCell ⟨b,o,none⟩ v) b t (c.setIfInBounds o v):=by
 unfold Blk at *;simp [World.setCell,Array.getElem?_modify,h]
theorem Blk.setOther{W:World}{b b':Nat}{t:TypeId}{c:Array Value}(o:Nat)(v:Value)(h:Blk W b t c)(hne:b≠b'):Blk (W.setCell ⟨b',o,none⟩ v) b t c:=(Below.heap_setCell _ _ _ _ hne).trans h
theorem Blk.drew{W:World}{b:Nat}{t:TypeId}{c:Array Value}(h:Blk W b t c):Blk W.drew b t c:=h
theorem Z5{W:World}{b:Nat}{t:TypeId}{c0:Value}(h:Blk W b t #[c0]):W.cell? ⟨b,0,none⟩=some c0/\W.frozen? ⟨b,0,none⟩=false:=⟨h.cell 0,h.free 0⟩
theorem Zh{β:Type}(B b:Nat)(t:TypeId)(c:β->Array Value):OwnFrom B (fun s W=>Blk W b t (c s)):=fun s X Y row hs hg hr =>
 (hg.block b hs.lt (fun e=>by obtain ⟨_,o,ho,hc⟩:=hr b e.symm;rw [show X.heap[b]?=_ from hs] at ho;cases ho;cases hc)).trans hs
theorem x8l{fn:Func}{R:Ending->World->Prop}{tmps:Array Value}{v:Value}:∀ (ds:List Nat) (W:World),ds.Nodup->(∀ D∈ds,W.heap[D]?=some (.deferred (some []))) ->
 (∀ W',W'.heap.size=W.heap.size->W'.os=W.os->W'.tape=W.tape->W'.output=W.output->(∀ k,k ∉ ds->W'.heap[k]?=W.heap[k]?)->(results fn tmps).run Tryz.prog W'=.ok v W'/\R (.returned v) W') ->
 LeavesInM Fence.wide 6 Tryz.prog fn tmps R (ds.map fun D=>{ target:=.collected D,args:=#[] }) .returning W:=by
 intro ds
 induction ds with
 | nil =>
   intro W _ _ h;obtain ⟨h1,h2⟩:=h W rfl rfl rfl rfl (fun _ _=>rfl);exact ⟨v,h1,h2⟩
 | cons D ds ih =>
   intro W hn hD h;refine ⟨by simp,.inl ⟨_,_,rfl,run_takeDeferred (hD D (by simp)),ih _ (List.nodup_cons.1 hn).2 (fun D' h'=>?_) (fun W' h1 h2 h3 h4 h5=>?_)⟩⟩
   ·exact (World.putObj_heap_other (fun e=>(List.nodup_cons.1 hn).1 (by rw [<- e];exact h'))).trans (hD D' (by simp [h']))
   ·refine h W' (h1.trans (by simp [World.putObj])) h2 h3 h4 fun k hk=>?_;simp only [List.mem_cons,not_or] at hk;exact (h5 k hk.2).trans (World.putObj_heap_other hk.1)
theorem Zk(W:World)(n:Nat):Bl W (W.drewN n):=⟨rfl,rfl,rfl,lAd _,fun _ _=>rfl⟩
theorem Ox(b:Nat)(pl:Int)(k:Nat)(hk:k<32)(w:World):Calls Tryz.prog 208 #[.agg #[.pointer (some ⟨b,0,none⟩),.int .i64 pl,.int .i64 k]] w fun e w'=>e=.returned (.pointer (some ⟨b,3+k*2,none⟩))/\Bl w w':=by
 go_enter Tryz.func208,Tryz.ntmps208
 go_wp2_with fail
 go_quiet (fail)
 go_wp2;go_ret;exact ⟨rfl,((Below.refl _ _).alloc (lAd _) _).trans ((Zk _ _).mono (by simp))⟩
theorem x0b(b:Nat)(k:Nat)(w:World):Calls Tryz.prog 223 #[.pointer (some ⟨b,0,none⟩),.int .i64 k] w fun e w'=>e=.returned (.agg #[.pointer (some ⟨b,0,none⟩),.int .i64 (-1),.int .i64 k])/\Bl w w':=by
 go_enter Tryz.func223,Tryz.ntmps223
 go_wp2;go_returns;exact ⟨rfl,(Below.refl _ _).alloc (lAd _) _⟩
theorem y0b(b t:Nat)(A:Array Value)(w:World)(h:Blk w b t A)(h3:A[3]?=some (.pointer none)):Calls Tryz.prog 212 #[.pointer (some ⟨b,0,none⟩)] w fun e w'=>e=.returned (.tuple #[])/\w'=w:=by
 have e0:=h.cell 3;rw [h3] at e0
 go_enter Tryz.func212,Tryz.ntmps212
 go_wp2;go_returns;exact ⟨rfl,rfl⟩
theorem Fx(b t b' t':Nat)(A A':Array Value)(w:World)(h:Blk w b t A)(h3:A[3]?=some (.pointer (some ⟨b',0,none⟩)))(h':Blk w b' t' A')(hs:2<A'.size):Calls Tryz.prog 212 #[.pointer (some ⟨b,0,none⟩)] w fun e w'=>e=.returned (.tuple #[])/\w'=w.setCell ⟨b',2,none⟩ (.pointer (some ⟨b,0,none⟩)):=by
 have e0:=h.cell 3;rw [h3] at e0;have e1:=h'.cell 2;rw [Array.getElem?_eq_getElem hs] at e1;have e2:=h'.free 2
 go_enter Tryz.func212,Tryz.ntmps212
 go_wp2;go_returns;exact ⟨rfl,rfl⟩
end Go.Proofs.YtcklcmafohlflaaGreatDoor.Sk
namespace Go.Proofs.YtcklcmafohlflaaGreatDoor.Sk
open Zc
open Go.RowKit Go.Shelf
structure Far (S:Nat->Prop) (w w':World):Prop where
 os:w'.os=w.os
 tape:w'.tape=w.tape
 output:w'.output=w.output
 size:w.heap.size<=w'.heap.size
 block:∀ k,k<w.heap.size->¬ S k->w'.heap[k]?=w.heap[k]?
theorem Far.refl(S:Nat->Prop)(w:World):Far S w w:=⟨rfl,rfl,rfl,lAd _,fun _ _ _=>rfl⟩
theorem Far.trans{S S1:Nat->Prop}{a b c:World}(h:Far S a b)(g:Far S1 b c)(hs:∀ k,S1 k->S k\/a.heap.size<=k):Far S a c :=
 ⟨g.os.trans h.os,g.tape.trans h.tape,g.output.trans h.output,lAe h.size g.size,fun k hk hn =>
   (g.block k (Nat.lt_of_lt_of_le hk h.size) (fun h1=>by rcases hs k h1 with h2|h2;exact hn h2;omega)).trans (h.block k hk hn)⟩
theorem Far.of_below{S:Nat->Prop}{a b:World}(h:Bl a b):Far S a b:=⟨h.os,h.tape,h.output,h.size,fun k hk _=>h.block k hk⟩
theorem Far.then_below{S:Nat->Prop}{a b c:World}(h:Far S a b)(g:Bl b c):Far S a c:=h.trans (S1:=fun _=>False) (Far.of_below g) (fun _ h=>h.elim)
theorem Far.set{S:Nat->Prop}{a b:World}(h:Far S a b)(p:Addr)(v:Value)(hp:S p.block\/a.heap.size<=p.block):Far S a (b.setCell p v) :=
 h.trans (S1:=fun k=>k=p.block) ⟨rfl,rfl,rfl,by simp [World.setCell],fun k _ hn=>Below.heap_setCell _ _ _ _ hn⟩ (fun k e=>by subst e;exact hp)
theorem Far.below{S:Nat->Prop}{a b:World}(h:Far S a b){B:Nat}(hS:∀ k,S k->B<=k)(hB:B<=a.heap.size):Below B a b :=
 ⟨h.os,h.tape,h.output,h.size,fun k hk=>h.block k (by omega) (fun h1=>by have:=hS k h1;omega)⟩
theorem Far.mono{S S1:Nat->Prop}{a b:World}(h:Far S a b)(hs:∀ k,S k->S1 k):Far S1 a b:=⟨h.os,h.tape,h.output,h.size,fun k hk hn=>h.block k hk (fun h1=>hn (hs k h1))⟩
theorem Far.blk{S:Nat->Prop}{a b:World}(h:Far S a b){k:Nat}{t:TypeId}{c:Array Value}(hk:Blk a k t c)(hn:¬ S k):Blk b k t c:=(h.block k hk.lt hn).trans hk
theorem Blk.ty{W:World}{k:Nat}{t t':TypeId}{c c':Array Value}(h:Blk W k t c)(h':Blk W k t' c'):t=t':=by
 unfold Blk at h h';rw [h] at h';injection h' with h';injection h' with _ ht
structure Nd where
 b:Nat
 m:ByteArray
 s:Int
 l:Nat
def hd(p:Nat):Nd:=⟨p,⟨#[]⟩,0,32⟩
def lev(F:List Nd)(q:Nat):Nat:=(F[q]?.map Nd.l).getD 0
def adr(F:List Nd)(q:Nat):Value:=.pointer (F[q]?.map fun x=>⟨x.b,0,none⟩)
def stp(F:List Nd)(k q:Nat):Value:=.agg #[adr F q,.int .i64 ((q:Int)-1),.int .i64 k]
theorem Yk{F:List Nd}{q:Nat}{x:Nd}(h:F[q]?=some x):adr F q=.pointer (some ⟨x.b,0,none⟩):=by unfold adr;rw [h];rfl
theorem Gn{F:List Nd}{q:Nat}(h:F.length<=q):adr F q=.pointer none:=by unfold adr;rw [List.getElem?_eq_none h];rfl
theorem X8{F:List Nd}{q:Nat}{x:Nd}(h:F[q]?=some x):lev F q=x.l:=by unfold lev;rw [h];rfl
def steps(F:List Nd)(k q:Nat):List Nat:=(List.range' (q+1) (F.length-(q+1))).filter fun i=>k<lev F i
def nxt(F:List Nd)(k q:Nat):Nat:=((List.range' (q+1) (F.length-(q+1))).find? fun i=>k<lev F i).getD F.length
theorem y1f(P:Nat->Bool):∀ m a,match (List.range' a m).find? P with
 | none=>(List.range' a m).filter P=[]/\∀ i,a<=i->i<a+m->P i=false
 | some y=>a<=y/\y<a+m/\P y=true/\(∀ i,a<=i->i<y->P i=false)/\(List.range' a m).filter P=y :: (List.range' (y+1) (a+m-(y+1))).filter P:=by
 intro m
 induction m with
 | zero=>intro a;exact ⟨rfl,fun i h1 h2=>by omega⟩
 | succ m ih =>
   intro a;rw [List.range'_succ]
   by_cases h:P a=true
   ·rw [List.find?_cons_of_pos h,List.filter_cons_of_pos h];refine ⟨lAd _,by omega,h,fun i h1 h2=>by omega,?_⟩;rw [show a+(m+1)-(a+1)=m by omega]
   ·have h':P a=false:=by simpa using h
    rw [List.find?_cons_of_neg h,List.filter_cons_of_neg h]
    have:=ih (a+1)
    split at this
    ·rename_i e;refine ⟨this.1,fun i h1 h2=>?_⟩
     by_cases e2:i=a
     ·subst e2;exact h'
     ·exact this.2 i (by omega) (by omega)
    ·rename_i y e;obtain ⟨t1,t2,t3,t4,t5⟩:=this;refine ⟨by omega,by omega,t3,fun i h1 h2=>?_,?_⟩
     ·by_cases e2:i=a
      ·subst e2;exact h'
      ·exact t4 i (by omega) (by omega)
     ·rw [t5,show a+1+m-(y+1)=a+(m+1)-(y+1) by omega]
theorem Yy(F:List Nd)(k q:Nat)(hq:q<F.length):q<nxt F k q/\nxt F k q<=F.length/\(∀ i,q<i->i<nxt F k q->lev F i<=k)/\(nxt F k q<F.length->k<lev F (nxt F k q)) /\
 steps F k q=(if nxt F k q<F.length then nxt F k q :: steps F k (nxt F k q) else []):=by
 have:=y1f (fun i=>decide (k<lev F i)) (F.length-(q+1)) (q+1)
 unfold nxt steps
 split at this
 ·rename_i e;rw [e];refine ⟨hq,lAd _,fun i h1 h2=>?_,fun h=>absurd h (Nat.lt_irrefl _),?_⟩
  ·have:=this.2 i (by omega) (by simp at h2;omega)
   simpa using this
  ·rw [this.1,if_neg];simp
 ·rename_i y e;rw [e];obtain ⟨t1,t2,t3,t4,t5⟩:=this;simp only [Option.getD_some];refine ⟨by omega,by omega,fun i h1 h2=>by simpa using t4 i (by omega) h2,fun _=>by simpa using t3,?_⟩;rw [t5,if_pos (by omega),show q+1+(F.length-(q+1))=F.length by omega]
theorem Xt{F:List Nd}{k q j:Nat}(hq:q<F.length)(h1:q<j)(h2:j<=F.length)(h3:∀ i,q<i->i<j->lev F i<=k)(h4:j<F.length->k<lev F j):nxt F k q=j:=by
 obtain ⟨a1,a2,a3,a4,_⟩:=Yy F k q hq;rcases Nat.lt_trichotomy (nxt F k q) j with h|h|h
 ·have:=h3 _ a1 h
  have:=a4 (by omega)
  omega
 ·exact h
 ·have:=a3 _ h1 h
  have:=h4 (by omega)
  omega
theorem z2j{F:List Nd}{k q i:Nat}:i∈steps F k q↔q<i/\i<F.length/\k<lev F i:=by
 unfold steps;rw [List.mem_filter,List.mem_range'_1];simp;omega
def lk0(F:List Nd)(q k:Nat):Value × Int:=(adr F (nxt F k q),(nxt F k q:Int)-q-1)
def ah0(F:List Nd)(q:Nat):Value:=if q=0 then .pointer none else adr F (q-1)
def tyq(q:Nat):TypeId:=if q=0 then 265 else 263
def szq(q:Nat):Nat:=if q=0 then 68 else 67
structure NodeA (A:Array Value) (q:Nat) (x:Nd) (lk:Nat->Value × Int) (ah:Value) (n:Int):Prop where
 size:A.size=szq q
 m:A[0]?=some (.string x.m)
 s:A[1]?=some (.int .i64 x.s)
 a:A[2]?=some ah
 link:∀ k,k<x.l->A[3+k*2]?=some (lk k).1/\A[3+k*2+1]?=some (.int .i64 (lk k).2)
 n:q=0->A[67]?=some (.int .i64 n)
structure Sk (W:World) (F:List Nd) (lk:Nat->Nat->Value × Int) (ah:Nat->Value) (n:Int):Prop where
 node:∀ (q:Nat) (x:Nd),F[q]?=some x->∃ A,Blk W x.b (tyq q) A/\NodeA A q x (lk q) (ah q) n
 inj:∀ (q q':Nat) (x x':Nd),F[q]?=some x->F[q']?=some x'->x.b=x'.b->q=q'
 lev:∀ (q:Nat) (x:Nd),F[q]?=some x->0<x.l/\x.l<=32
theorem v4q(q:Nat):itT (tyq q):=by unfold tyq;split;exact .inr (.inr (.inr rfl));exact .inr (.inr (.inl rfl))
theorem z0m(q:Nat):tyq q≠292/\tyq q≠260/\tyq q≠294/\tyq q≠94:=by unfold tyq;split <;> decide
variable {W W':World} {F:List Nd} {lk:Nat->Nat->Value × Int} {ah:Nat->Value} {n:Int}
def isB(F:List Nd)(k:Nat):Prop:=∃ x∈F,x.b=k
theorem Vl{q:Nat}{x:Nd}(h:F[q]?=some x):isB F x.b:=⟨x,lAc h,rfl⟩
theorem Sk.lt(h:Sk W F lk ah n){k:Nat}(hk:isB F k):k<W.heap.size:=by
 obtain ⟨x,hx,rfl⟩:=hk;obtain ⟨q,hq⟩:=List.mem_iff_getElem?.1 hx;obtain ⟨A,hA,_⟩:=h.node q x hq;exact hA.lt
theorem Sk.far(h:Sk W F lk ah n){S:Nat->Prop}(hf:Far S W W')(hS:∀ k,isB F k->¬ S k):Sk W' F lk ah n :=
 ⟨fun q x hq=>by obtain ⟨A,h1,h2⟩:=h.node q x hq;exact ⟨A,hf.blk h1 (hS _ (Vl hq)),h2⟩,h.inj,h.lev⟩
theorem Sk.later(h:Sk W F lk ah n)(hb:Bl W W'):Sk W' F lk ah n:=h.far (S:=fun _=>False) (Far.of_below hb) (fun _ _ h=>h)
theorem Sk.keep(h:Sk W F lk ah n){L:List Nat}(hk:KeepC itT L W W')(hL:∀ k∈L,¬ isB F k):Sk W' F lk ah n :=
 ⟨fun q x hq=>by obtain ⟨A,h1,h2⟩:=h.node q x hq;exact ⟨A,h1.keep hk (fun e=>hL _ e (Vl hq)) (v4q q),h2⟩,h.inj,h.lev⟩
theorem Sk.setOther(h:Sk W F lk ah n)(b o:Nat)(v:Value)(hb:¬ isB F b):Sk (W.setCell ⟨b,o,none⟩ v) F lk ah n :=
 ⟨fun q x hq=>by obtain ⟨A,h1,h2⟩:=h.node q x hq;exact ⟨A,h1.setOther o v (fun e=>hb (e ▸ Vl hq)),h2⟩,h.inj,h.lev⟩
theorem Sk.not_ty(h:Sk W F lk ah n){b t:Nat}{c:Array Value}(hb:Blk W b t c)(ht:∀ q,tyq q≠t):¬ isB F b:=fun ⟨x,hx,e⟩=>by
 obtain ⟨q,hq⟩:=List.mem_iff_getElem?.1 hx;obtain ⟨A,hA,_⟩:=h.node q x hq;subst e;exact ht q (hA.ty hb)
theorem Sk.aside(h:Sk W F lk ah n){N:Nat}(ha:Aside N W W'):Sk W' F lk ah n :=
 ⟨fun q x hq=>by obtain ⟨A,h1,h2⟩:=h.node q x hq;exact ⟨A,ha.block _ _ h1 (.inr fun c e=>by injection e with _ e2;exact (z0m q).1 e2),h2⟩,h.inj,h.lev⟩
end Go.Proofs.YtcklcmafohlflaaGreatDoor.Sk
namespace Go.Proofs.YtcklcmafohlflaaGreatDoor.Sk
open Zc
open Go.RowKit Go.Shelf
attribute [local go_sem] Oper.semAt_some
def Fh(W:World)(c:Nat):Int:=match W.cell? ⟨c,1,none⟩ with|some v=>intOf v|none=>0
def y7e(F:List Nd)(k:Nat)(_:Nat)(q:Nat):Array Value:=#[stp F k q]
theorem Uu{W:World}{b:Nat}{t:TypeId}{c0 c1 c2:Value}(h:Blk W b t #[c0,c1,c2]):W.cell? ⟨b,0,none⟩=some c0/\W.cell? ⟨b,1,none⟩=some c1/\W.cell? ⟨b,2,none⟩=some c2/\W.frozen? ⟨b,0,none⟩=false/\W.frozen? ⟨b,1,none⟩=false/\W.frozen? ⟨b,2,none⟩=false :=
 ⟨h.cell 0,h.cell 1,h.cell 2,h.free 0,h.free 1,h.free 2⟩
def U7(F:List Nd)(k q:Nat):Array Value:=#[adr F q,.int .i64 ((q:Int)-1),.int .i64 k]
theorem Qb(F:List Nd)(ah:Nat->Value)(n:Int)(w:World)(k q0:Nat)(x0:Nd)(hk:k<32)(hx0:F[q0]?=some x0)(hl0:k<x0.l)(hN:F.length<=1000000)(L:List Nat)(hw:Sk w F (lk0 F) ah n)(hL:∀ b∈L,¬ isB F b)(hL2:∀ b∈L,b<w.heap.size) :
 y6s Tryz.prog 224 #[stp F k q0] #[] (y7e F k) (steps F k q0) L w:=by
 intro l J Jx W hW hJ hJx hY hJ0;refine callsIn_of_wp Tryz.func224 rfl trivial ?_ rfl;unfold stp;simp only [Tryz.ntmps224,List.size_toArray,List.length_cons,List.length_nil,Nat.reduceAdd,Nat.reduceSub,Array.replicate_succ,Array.replicate_zero,List.push_toArray,List.append_toArray,List.nil_append,List.cons_append,List.append_nil];have HY:=jY hY;have HJ:=jY hJ;have HJX:=jY hJx;have HW:=jY (hw.later hW);have HL:=jY hL;have hL2':∀ b∈L,b<W.heap.size:=fun b hb=>Nat.lt_of_lt_of_le (hL2 b hb) hW.size;have HL2:=jY hL2';have HX0:=jY hx0;have HL0:=jY hl0;have HJ0:=jY (hJ 0 W (W.alloc (.cells (U7 F k q0) 292)) hJ0 (Aside.of_below ((Below.refl _ _).alloc (lAd _) _)));clear hY hJ hJx hW hL hL2 hw hx0 hl0 hJ0 hL2';gi_wp2
 gi_loopw [4] (fun _ wr=>∃ (i q:Nat) (x:Nd),F[q]?=some x/\k<x.l/\Blk wr W.heap.size 292 (U7 F k q)/\(steps F k q0).drop i=steps F k q/\i<=(steps F k q0).length/\J i wr/\Sk wr F (lk0 F) ah n/\W.heap.size<=wr.heap.size)
  (fun _ wr=>(F.length-Fh wr W.heap.size).toNat)
 case atStart =>
  refine ⟨0,q0,x0,HX0.out,HL0.out,Blk.new _ _ _,rfl,Nat.zero_le _,HJ0.out,HW.out.later ((Below.refl _ _).alloc (lAd _) _),by simp⟩
 case round =>
  obtain ⟨i,q,x,hx,hkl,kb,hd,hi,hJi,hS,hsz⟩:=hrel;have hql:q<F.length:=(lAb.1 hx).1;obtain ⟨s1,s2,s3,s4,s5⟩:=Yy F k q hql;obtain ⟨A,hA,hN1⟩:=hS.node q x hx;obtain ⟨l1,l2⟩:=hN1.link k hkl;have c1:=hA.cell (3+k*2);rw [l1] at c1;have c2:=hA.cell (3+k*2+1);rw [l2] at c2;have hae:=Yk hx;have hpl:Fh wr W.heap.size=(q:Int)-1:=by unfold Fh;rw [kb.cell 1];rfl
  have HLK:=fun (w:World)=>jY (Ox x.b ((q:Int)-1) k hk w);unfold U7 at kb;rw [hae] at kb;unfold lk0 at c1 c2;simp only at c1 c2;have hb1:=jY hA;obtain ⟨f0,f1,f2,f3,f4,f5⟩:=Uu kb;have KB:=jY kb;have HS:=jY hS;have S5:=jY s5;have S4:=jY s4;clear hA hN1 l1 l2 s3 s4 s5 kb hS hae
  gi_wp2_with fail
  refine ⟨trivial,?_⟩;refine (callsIn_wide.2 (HLK _).out).mono ?_;rintro e w1 ⟨rfl,hb1'⟩;have c1':=(hb1'.cell (p:=⟨x.b,3+k*2,none⟩) (hb1.out.lt)).trans c1;have c2':=(hb1'.cell (p:=⟨x.b,3+k*2+1,none⟩) (hb1.out.lt)).trans c2;have g0:=(hb1'.cell (p:=⟨W.heap.size,0,none⟩) (KB.out.lt)).trans f0;have g1:=(hb1'.cell (p:=⟨W.heap.size,1,none⟩) (KB.out.lt)).trans f1;have g2:=(hb1'.cell (p:=⟨W.heap.size,2,none⟩) (KB.out.lt)).trans f2;have kb1:=KB.out.later hb1';have f3':=kb1.free 0;have f4':=kb1.free 1;have f5':=kb1.free 2;have z1:W.heap.size<w1.heap.size:=kb1.lt;have KB1:=jY kb1;have HB1:=jY hb1';clear f0 f1 f2 f3 f4 f5 c1 c2 kb1 hb1'
  by_cases hlast:nxt F k q<F.length
  ·obtain ⟨y,hy⟩:∃ y,F[nxt F k q]?=some y:=⟨_,lAa hlast⟩;have hay:=Yk hy;rw [hay] at c1'
   gi_wp2_with fail
   have hp:(q:Int)-1+((nxt F k q:Int)-q-1)+1=(nxt F k q:Int)-1:=by omega
   rw [hp];clear hp;generalize ho:Obj.cells #[Value.pointer (some ⟨y.b,0,none⟩),Value.int IntKind.i64 ((nxt F k q:Int)-q-1)] 260=o at *;obtain ⟨W2,hW2⟩:∃ W2,W2=((((w1.setCell ⟨W.heap.size,0,none⟩ (.pointer (some ⟨y.b,0,none⟩))).setCell ⟨W.heap.size,1,none⟩ (.int .i64 ((nxt F k q:Int)-1))).setCell ⟨W.heap.size,2,none⟩ (.int .i64 k)).alloc o):=⟨_,rfl⟩;rw [<- hW2]
   have k2:Blk W2 W.heap.size 292 (U7 F k (nxt F k q)):=by
    rw [hW2]
    have:=(((KB1.out.set 0 (.pointer (some ⟨y.b,0,none⟩))).set 1 (.int .i64 ((nxt F k q:Int)-1))).set 2 (.int .i64 k)).alloc o
    unfold U7;rw [hay];exact this
   have hAs:Aside W.heap.size wr W2:=by
    rw [hW2];have q1:=KB1.out;have q2:=q1.set 0 (.pointer (some ⟨y.b,0,none⟩));have q3:=q2.set 1 (.int .i64 ((nxt F k q:Int)-1));exact (Aside.of_below HB1.out).trans ((Aside.set _ _ _ _ q1 (lAd _)).trans ((Aside.set _ _ _ _ q2 (lAd _)).trans ((Aside.set _ _ _ _ q3 (lAd _)).trans (Aside.of_below ((Below.refl _ _).alloc (lAd _) _)))))
   have hJ2:=HJ.out i wr W2 hJi hAs;have hS2:=HS.out.aside hAs;have h5:=S5.out;rw [if_pos hlast] at h5
   have hil:(steps F k q0)[i]?=some (nxt F k q):=by
    have:=congrArg (fun l=>l[0]?) (hd.trans h5)
    simpa using this
   have hz2:W.heap.size<=W2.heap.size:=lAe hsz hAs.size;obtain ⟨fn,tmps,assign,body,hy2,hR⟩:=HY.out i _ W2 hil hJ2;unfold y7e stp at hy2;rw [hay] at hy2;have K2:=jY k2;have S2:=jY hS2;have HLE:=jY (lAb.1 hil).1
   have HD2:(steps F k q0).drop (i+1)=steps F k (nxt F k q):=by
    have:=congrArg (List.drop 1) (hd.trans h5)
    simpa using this
   have HLY:=jY (X8 hy ▸ S4.out hlast);have HY':=jY hy;clear c1' c2' g0 g1 g2 f3' f4' f5' hW2 k2 hAs hJ2 hS2 h5 hil hd hy hi ho;rw [hy2]
   gi_wp2_with fail
   (try refine ⟨fun _=>by decide,?_⟩)
   refine hR.mono ?_;rintro e W3 (⟨rfl,hJ3,hk3⟩|⟨rfl,hJx3⟩)
   ·have k3:=K2.out.keep hk3 (fun e=>Nat.lt_irrefl _ (HL2.out _ e));have S3:=S2.out.keep hk3 HL.out;clear hR hy2 K2 S2;have hpl3:Fh W3 W.heap.size=(nxt F k q:Int)-1:=by unfold Fh;rw [k3.cell 1];rfl
    have K3:=jY k3;have S3':=jY S3;clear k3 S3;gi_wp2;refine ⟨⟨i+1,nxt F k q,y,HY'.out,HLY.out,K3.out,HD2,HLE.out,hJ3,S3'.out,lAe hz2 hk3.size⟩,?_⟩;rw [hpl,hpl3];omega
   ·clear hR hy2;gi_wp2;go_returns;exact ⟨⟨_,rfl⟩,.inr ⟨_,hJx3⟩⟩
  ·have hnone:=Gn (F:=F) (q:=nxt F k q) (by omega);rw [hnone] at c1';gi_wp2;go_returns;have h5:=S5.out;rw [if_neg hlast] at h5
   have hie:i=(steps F k q0).length:=by
    have:=congrArg List.length (hd.trans h5)
    simp only [List.length_drop,List.length_nil] at this;omega
   refine ⟨⟨_,rfl⟩,.inl ?_⟩;rw [<- hie];exact HJ.out i wr _ hJi (Aside.of_below (HB1.out.trans ((Below.refl _ _).alloc (HB1.out.size) _)))
end Go.Proofs.YtcklcmafohlflaaGreatDoor.Sk
namespace Go.Proofs.YtcklcmafohlflaaGreatDoor.Sk
open Zc
open Go.RowKit Go.Shelf
def Zn(F:List Nd)(k:Nat):Nat->Nat
 | 0=>0
 | a+1=>if k<lev F (a+1) then a+1 else Zn F k a
theorem Yi(F:List Nd)(k:Nat)(h0:k<lev F 0):∀ a,Zn F k a<=a/\k<lev F (Zn F k a)/\∀ i,Zn F k a<i->i<=a->lev F i<=k:=by
 intro a
 induction a with
 | zero=>exact ⟨lAd _,h0,fun i h1 h2=>by simp [Zn] at h1;omega⟩
 | succ a ih =>
   unfold Zn
   split
   ·rename_i h;exact ⟨lAd _,h,fun i h1 h2=>by omega⟩
   ·rename_i h;refine ⟨by omega,ih.2.1,fun i h1 h2=>?_⟩
    by_cases e:i=a+1
    ·subst e;omega
    ·exact ih.2.2 i h1 (by omega)
theorem J0{F:List Nd}{k a q:Nat}(h0:k<lev F 0)(h1:q<=a)(h2:k<lev F q)(h3:∀ i,q<i->i<=a->lev F i<=k):Zn F k a=q:=by
 obtain ⟨t1,t2,t3⟩:=Yi F k h0 a;rcases Nat.lt_trichotomy (Zn F k a) q with h|h|h
 ·have:=t3 q h h1;omega
 ·exact h
 ·have:=h3 _ h t1;omega
theorem Qe(F:List Nd)(hp:∀ i,i<F.length->0<lev F i)(a:Nat)(h:a<F.length):Zn F 0 a=a :=
 J0 (hp 0 (by omega)) (lAd _) (hp a h) (fun i h1 h2=>by omega)
def v3d(F:List Nd)(a:Nat):List Value:=(List.range 32).flatMap fun k=>(U7 F k (Zn F k a)).toList
def Ys(F:List Nd)(a:Nat):Array Value:=(v3d F a).toArray
theorem v0e(f:Nat->List Value)(hf:∀ k,(f k).length=3):∀ n,((List.range n).flatMap f).length=n*3/\∀ k i,k<n->i<3->((List.range n).flatMap f)[k*3+i]?=(f k)[i]?:=by
 intro n
 induction n with
 | zero=>exact ⟨rfl,fun k i h _=>by omega⟩
 | succ n ih =>
   have hs:(List.range (n+1)).flatMap f=(List.range n).flatMap f++f n:=by
    rw [List.range_succ,List.flatMap_append];simp
   rw [hs];refine ⟨by rw [lAh,ih.1,hf];omega,fun k i hk hi=>?_⟩
   by_cases e:k=n
   ·subst e;rw [List.getElem?_append_right (by rw [ih.1];omega),ih.1]
    congr 1
    omega
   ·rw [List.getElem?_append_left (by rw [ih.1];omega)];exact ih.2 k i (by omega) hi
theorem x6y(F:List Nd)(a:Nat):(v3d F a).length=96:=(v0e _ (fun _=>rfl) 32).1
theorem X6(F:List Nd)(a:Nat):(Ys F a).size=96:=by unfold Ys;simp [x6y]
theorem Id(F:List Nd)(a k i:Nat)(hk:k<32)(hi:i<3):(Ys F a)[k*3+i]?=(U7 F k (Zn F k a))[i]?:=by
 unfold Ys
 have:=(v0e (fun k=>(U7 F k (Zn F k a)).toList) (fun _=>rfl) 32).2 k i hk hi
 simpa [v3d] using this
theorem v0b{F:List Nd}{a:Nat}{A:Array Value}(hs:A.size=96)(h:∀ k i,k<32->i<3->A[k*3+i]?=(U7 F k (Zn F k a))[i]?):A=Ys F a:=by
 apply Array.ext_getElem?
 intro j
 by_cases hj:j<96
 ·have h1:=h (j / 3) (j % 3) (by omega) (by omega);have h2:=Id F a (j / 3) (j % 3) (by omega) (by omega);rw [show j / 3*3+j % 3=j by omega] at h1 h2;rw [h1,h2]
 ·rw [Array.getElem?_eq_none (by omega),Array.getElem?_eq_none (by rw [X6];omega)]
theorem Pf(F:List Nd)(a k:Nat)(hk:k<32):(Ys F a)[k*3]?=some (adr F (Zn F k a))/\(Ys F a)[k*3+1]?=some (.int .i64 ((Zn F k a:Int)-1))/\(Ys F a)[k*3+2]?=some (.int .i64 k) :=
 ⟨Id F a k 0 hk (by decide),Id F a k 1 hk (by decide),Id F a k 2 hk (by decide)⟩
theorem Ie(F:List Nd)(a:Nat):(Ys F a).all (·.oneCell')=true:=by
 rw [Array.all_eq_true];intro j hj;rw [X6] at hj;have h2:=Id F a (j / 3) (j % 3) (by omega) (by omega);rw [show j / 3*3+j % 3=j by omega,Array.getElem?_eq_getElem (by rw [X6];exact hj)] at h2;have h3:j % 3=0\/j % 3=1\/j % 3=2:=by omega
 rcases h3 with h3|h3|h3 <;> (rw [h3] at h2;simp [U7] at h2;rw [h2];rfl)
def zW:Array Value:=((List.range 32).flatMap fun _=>[Value.pointer none,.int .i64 0,.int .i64 0]).toArray
theorem y5k:(Tryz.prog.info? 294).map (fun i=>(i.zero,i.size))=some (some (.agg zW),96):=by kernel_rfl
theorem Ig:zW.size=96:=by decide +kernel
theorem y4r(w:World):(zeroValue 294).run Tryz.prog w=.ok (.agg zW) w:=(zero_of_info y5k).1 w
theorem z6e:(Tryz.prog.info? 294).map (·.size)=some 96:=(zero_of_info y5k).2
theorem Bq:Tryz.prog.underlying 294=some (.array 32 292):=by kernel_rfl
theorem v1x{W:World}{b:Nat}{A:Array Value}(h:Blk W b 294 A)(hs:A.size=96):(Instr.loadAt 294 (.pointer (some ⟨b,0,none⟩))).run Tryz.prog W=.ok (.agg A) W:=by
 simp only [Instr.loadAt,Instr.sureAddr,Sem.run_bind,Sem.run_pure,Result.andThen];exact run_loadVar_row _ _ 294 294 A (0,0) _ h Bq rfl (by rw [z6e,hs])
theorem Dq{W:World}{b:Nat}{A:Array Value}(h:Blk W b 294 A)(hs:A.size=96):(loadVar 294 ⟨b,0,none⟩).run Tryz.prog W=.ok (.agg A) W :=
 run_loadVar_row _ _ 294 294 A (0,0) _ h Bq rfl (by rw [z6e,hs])
theorem x9w{W:World}{b:Nat}{A B:Array Value}(h:Blk W b 294 A)(hs:A.size=96)(hs':B.size=96)(ho:B.all (·.oneCell')=true):(Instr.storeAt 294 (.pointer (some ⟨b,0,none⟩)) (.agg B)).run Tryz.prog W=.ok () (W.setRow b B):=by
 simp only [Instr.storeAt,Instr.sureAddr,Sem.run_bind,Sem.run_pure,Result.andThen];exact run_storeVar_row _ _ 294 294 A B h (by rw [z6e,hs']) (by rw [hs,hs']) ho
theorem Blk.setRow{W:World}{b t:Nat}{A:Array Value}(h:Blk W b t A)(B:Array Value):Blk (W.setRow b B) b t B:=by
 unfold Blk at *;simp [World.setRow,Array.getElem?_modify,h]
theorem U0{W:World}{b k:Nat}(B:Array Value)(hne:k≠b):(W.setRow b B).heap[k]?=W.heap[k]?:=by
 simp [World.setRow,Array.getElem?_modify,Ne.symm hne]
theorem Qy(W:World)(b:Nat)(B:Array Value):(W.setRow b B).heap.size=W.heap.size:=by simp [World.setRow]
end Go.Proofs.YtcklcmafohlflaaGreatDoor.Sk

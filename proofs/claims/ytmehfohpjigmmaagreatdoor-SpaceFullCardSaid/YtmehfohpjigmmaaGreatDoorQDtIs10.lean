/- Texts of one kind in one: DtIs, SnRangeS, SnCursors, SnOrdered, SnShelf, SnKeys, SnBucket, SnStretch, SnMask, SnScan, SnTold, SnFront, SnSmall, SnNil, SnAll. -/
import Derived.Test.YtmehfohpjigmmaaGreatDoorQDtFind09
import Derived.Shelf.Sort.Plain
import Derived.Shelf.GgSortFunc.Tiny
import Derived.Shelf.GgSortFunc.Whole
import Derived.Shelf.Slices.In.SortNone
import Derived.Sort.OwnSorted
import Derived.Deep.CutRange
set_option maxRecDepth 200000
set_option maxHeartbeats 8000000
namespace Go.Proofs.YtmehfohpjigmmaaGreatDoor.Dc.Dt
open Zc
open Go.RowKit Go.Shelf
attribute [local go_sem] Oper.semAt_some
def M3(a:Addr):Value:=.pointer (some a)
def Is(W:World)(p:Nat)(S:Nat->Prop)(seed:Nat)(m:ByteArray->Option Addr)(n:Sh):Prop :=
 ∃ D,Rep tyP W p S seed D/\Like tyP seed D (fun k=>(m k).map M3)/\D.shape=n
def B7(m:ByteArray->Option Addr)(key:ByteArray)(v:Addr):ByteArray->Option Addr:=fun k=>if k=key then some v else m k
def Df(m:ByteArray->Option Addr)(key:ByteArray):ByteArray->Option Addr:=fun k=>if k=key then none else m k
def IsNow(S:Nat->Prop)(W:World)(p seed:Nat)(m:ByteArray->Option Addr)(n:Sh)(W':World):Prop:=Is W' p (Xe tyP S W W') seed m n/\Far S W W'
theorem Is.far{S S1:Nat->Prop}{W W':World}{p seed:Nat}{n:Sh}{m:ByteArray->Option Addr}(h:Is W p S seed m n)(f:Far S1 W W')(hd:∀ k,S k->¬ S1 k):Is W' p S seed m n:=by
 obtain ⟨D,h1,h2,h3⟩:=h;exact ⟨D,h1.far f hd,h2,h3⟩
theorem Is.cells{S:Nat->Prop}{W:World}{p seed:Nat}{n:Sh}{m:ByteArray->Option Addr}(h:Is W p S seed m n):∀ k,S k->CellB tyP W k:=by obtain ⟨D,h1,_⟩:=h;exact h1.cells
theorem Is.lt{S:Nat->Prop}{W:World}{p seed:Nat}{n:Sh}{m:ByteArray->Option Addr}(h:Is W p S seed m n):∀ k,S k->k<W.heap.size:=fun k hk=>(h.cells k hk).lt
theorem IsNow.of{S:Nat->Prop}{W W':World}{p seed:Nat}{n:Sh}{m:ByteArray->Option Addr}{D:Dc}(h:Went tyP S W p seed D W')(hl:Like tyP seed D (fun k=>(m k).map M3))(hn:D.shape=n):IsNow S W p seed m n W':=⟨⟨D,h.1,hl,hn⟩,h.2⟩
section
variable {S:Nat->Prop} {p seed:Nat} {n:Sh} {m:ByteArray->Option Addr} {w:World}
theorem Fv(m:ByteArray->Option Addr)(key:ByteArray)(v:Addr):(fun k=>(B7 m key v k).map M3)=z0z (fun k=>(m k).map M3) key (M3 v):=by
 funext k
 unfold B7 z0z
 split <;> rfl
theorem y1a(m:ByteArray->Option Addr)(key:ByteArray):(fun k=>(Df m key k).map M3)=z8n (fun k=>(m k).map M3) key:=by
 funext k
 unfold Df z8n
 split <;> rfl
theorem z0l(sd:Nat)(w:World):Calls Tryz.prog 29 #[.int .u32 sd] w fun e w'=>∃ q,e=.returned (.pointer (some ⟨q,0,none⟩))/\Is w' q (fresh tyP w w') sd (fun _=>none) ⟨4,0,0,0⟩/\Bl w w' :=
 (V4 sd w).mono fun _ _ ⟨q,h1,h2,h3⟩=>⟨q,h1,⟨Mq,h2,Like.new _ _,rfl⟩,h3⟩
theorem Ar(hsd:seed<4294967296)(h:Is w p S seed m n)(hn:n.n<=1000000)(key:ByteArray)(hk:key.size<=281474976710656) :
 Calls Tryz.prog 48 #[.pointer (some ⟨p,0,none⟩),.string key] w fun e w'=>e=.returned (.tuple #[.pointer (m key),.bool (m key).isSome])/\IsNow S w p seed m n.step1 w':=by
 obtain ⟨D,h1,h2,h3⟩:=h;have hn':D.n<=1000000:=by rw [<- h3] at hn;exact hn
 refine (Oo hsd h1 h2.1.ok hn' key hk).mono fun e w' ⟨he,hw⟩=>?_;obtain ⟨q1,q2,q3,q4⟩:=(h2.step 1).hit key;refine ⟨?_,IsNow.of hw (h2.step 1) ((Ux h2.1.ok 1).trans (by rw [h3];rfl))⟩;rw [he,q1]
 congr 2
 cases hm:m key with
 | none =>
   rw [q3 (by simp only [hm];rfl)];rfl
 | some v =>
   obtain ⟨y,hy⟩:=q4 (by simp only [hm];rfl)
   have:=q2 y hy
   simp only [hm,Option.map_some,Option.some.injEq] at this;rw [hy];simp only [y3s,<- this,M3];rfl
theorem z1j(hsd:seed<4294967296)(h:Is w p S seed m n)(hn:n.n+1<=1000000)(key:ByteArray)(hk:key.size<=281474976710656)(v:Addr) :
 Calls Tryz.prog 46 #[.pointer (some ⟨p,0,none⟩),.string key,.pointer (some v)] w fun e w'=>e=.returned (.bool (!(m key).isSome))/\IsNow S w p seed (B7 m key v) (n.set (m key).isSome) w':=by
 obtain ⟨D,h1,h2,h3⟩:=h;have hn':D.n+1<=1000000:=by rw [<- h3] at hn;exact hn
 refine (M8 hsd h1 h2.1.ok hn' key hk (some v)).mono fun e w' ⟨he,hw⟩=>?_;obtain ⟨q1,_⟩:=(h2.step 1).hit key;obtain ⟨g1,_⟩:=h2.set key (M3 v) ⟨some v,rfl⟩;have g2:=Gp h2.1.ok (Zi seed key.data.toList) key (.pointer (some v));rw [<- Fv] at g1;simp only [Option.isSome_map] at q1;exact ⟨by rw [he,q1],IsNow.of hw g1 (by rw [g2,h3,q1])⟩
theorem y2x(hsd:seed<4294967296)(h:Is w p S seed m n)(hn:n.n<=1000000)(key:ByteArray)(hk:key.size<=281474976710656) :
 Calls Tryz.prog 44 #[.pointer (some ⟨p,0,none⟩),.string key] w fun e w'=>e=.returned (.bool (m key).isSome)/\IsNow S w p seed (Df m key) (n.del (m key).isSome) w'/\((m key).isSome=true->0<n.n):=by
 obtain ⟨D,h1,h2,h3⟩:=h;have hn':D.n<=1000000:=by rw [<- h3] at hn;exact hn
 refine (y0d hsd h1 h2.1.ok hn' key hk).mono fun e w' ⟨he,hw⟩=>?_;obtain ⟨q1,_⟩:=(h2.step 1).hit key;obtain ⟨g1,_,g3⟩:=h2.del key;have g2:=z4x h2.1.ok (Zi seed key.data.toList) key;rw [<- y1a] at g1;simp only [Option.isSome_map] at q1 g3;exact ⟨by rw [he,q1],IsNow.of hw g1 (by rw [g2,h3,q1]),fun e=>by rw [<- h3];exact g3 e⟩
theorem y3i(h:Is w p S seed m n):Calls Tryz.prog 30 #[.pointer (some ⟨p,0,none⟩)] w fun e w'=>e=.returned (.int .i64 n.n)/\w'=w:=by
 obtain ⟨D,h1,h2,h3⟩:=h;rw [<- h3];exact Ov h1
theorem Bm(h:Is w p S seed m n):Calls Tryz.prog 47 #[.pointer (some ⟨p,0,none⟩)] w fun e w'=>e=.returned (.tuple #[.int .i64 n.A,.int .i64 n.B,.int .i64 n.At])/\Bl w w':=by
 obtain ⟨D,h1,h2,h3⟩:=h;rw [<- h3];exact z8x h1
end
end Go.Proofs.YtmehfohpjigmmaaGreatDoor.Dc.Dt
namespace Go.Proofs.YtmehfohpjigmmaaGreatDoor.Dc.Dt.Sc
open Zc
open Go.RowKit Go.Shelf
attribute [local go_sem] Oper.semAt_some
def itT(t:TypeId):Prop:=t=24\/t=95\/t=270
end Go.Proofs.YtmehfohpjigmmaaGreatDoor.Dc.Dt.Sc
namespace Go.Proofs.YtmehfohpjigmmaaGreatDoor.Dc.Dt
open Zc
open Go.RowKit Go.Shelf
attribute [local go_sem] Oper.semAt_some
def Ih(_:Nat)(x:Nat × Nat):Array Value:=#[.int .i64 x.1,.int .u32 x.2]
def I6(x:Nat × Nat):Value:=.agg #[.int .i64 x.1,.int .i64 x.2]
def Pq(x:Nat × Nat):Array Value:=#[.int .i64 x.1,.int .i64 x.2]
def Oc(A B:Nat):Nat × Nat:=if B=0\/A<=B then (0,A) else (1,B)
def Pw(A B:Nat):Nat × Nat:=if B=0\/B<A then (0,A) else (1,B)
theorem set2{W:World}{b:Nat}{t:TypeId}{x0 x1:Value}(v0 v1:Value)(h:Blk W b t #[x0,x1]):Blk ((W.setCell ⟨b,0,none⟩ v0).setCell ⟨b,1,none⟩ v1) b t #[v0,v1]:=(h.set 0 v0).set 1 v1
theorem Zq{W:World}{b k:Nat}{t:TypeId}{c:Array Value}(v0 v1:Value)(h:Blk W k t c)(hne:k≠b):Blk ((W.setCell ⟨b,0,none⟩ v0).setCell ⟨b,1,none⟩ v1) k t c:=(h.setOther 0 v0 hne).setOther 1 v1 hne
theorem V2{w W:World}{n b:Nat}(v0 v1:Value)(h:Below n w W)(hn:n<=b):Below n w ((W.setCell ⟨b,0,none⟩ v0).setCell ⟨b,1,none⟩ v1):=(h.setCell (p:=⟨b,0,none⟩) hn v0).setCell (p:=⟨b,1,none⟩) hn v1
def y5d(A:Nat)(S:Nat × Nat):Nat->Nat × Nat
 | 0=>(0,0)
 | 1=>(0,A)
 | _=>S
theorem Cs(A B:Nat)(hA:A<=65536)(hB:B<=65536)(hAB:A=0->B=0)(g:Nat)(w:World)(h:Blk w g 3 #[.int .i64 A,.int .i64 B]) :
 Calls Tryz.prog 49 #[.slice (some ⟨g,0,none⟩) 2 2] w fun e w'=>e=.returned (.tuple #[I6 (Oc A B),I6 (Pw A B)])/\Bl w w':=by
 have H:=jY h;clear h
 have hcs:(A=0/\B=0/\Oc A B=(0,A)/\Pw A B=(0,A))\/(0<A/\B=0/\Oc A B=(0,A)/\Pw A B=(0,A))\/(0<B/\B<A/\Oc A B=(1,B)/\Pw A B=(0,A))\/(0<A/\0<B/\A<=B/\Oc A B=(0,A)/\Pw A B=(1,B)):=by
  unfold Oc Pw
  by_cases h1:B=0
  ·rw [if_pos (.inl h1),if_pos (.inl h1)]
   by_cases h2:A=0
   ·exact .inl ⟨h2,h1,rfl,rfl⟩
   ·exact .inr (.inl ⟨by omega,h1,rfl,rfl⟩)
  ·by_cases h2:A<=B
   ·rw [if_pos (.inr h2),if_neg (by omega)];exact .inr (.inr (.inr ⟨by omega,by omega,h2,rfl,rfl⟩))
   ·rw [if_neg (by omega),if_pos (.inr (by omega))];exact .inr (.inr (.inl ⟨by omega,by omega,rfl,rfl⟩))
 have HCS:=jY hcs;clear hcs;generalize Oc A B=S at *;generalize Pw A B=G at *;obtain ⟨sa,sb⟩:=S;obtain ⟨ga,gb⟩:=G;unfold I6;simp only
 go_enter Tryz.func49,Tryz.ntmps49
 go_wp2;obtain ⟨w1,hw1⟩:∃ w1,(((w.alloc (Obj.cells #[Value.int IntKind.i64 0,Value.int IntKind.i64 0] 95)).alloc (Obj.cells #[Value.int IntKind.i64 0,Value.int IntKind.i64 0] 95)).alloc (Obj.cells #[Value.int IntKind.i64 0,Value.int IntKind.i64 0] 95)).alloc (Obj.cells #[Value.int IntKind.i64 0,Value.int IntKind.i64 0] 95)=w1:=⟨_,rfl⟩;have kg:Blk w1 g 3 #[.int .i64 A,.int .i64 B]:=by rw [<- hw1];exact (((H.out.alloc (Obj.cells #[Value.int IntKind.i64 0,Value.int IntKind.i64 0] 95)).alloc (Obj.cells #[Value.int IntKind.i64 0,Value.int IntKind.i64 0] 95)).alloc (Obj.cells #[Value.int IntKind.i64 0,Value.int IntKind.i64 0] 95)).alloc (Obj.cells #[Value.int IntKind.i64 0,Value.int IntKind.i64 0] 95)
 have k0:Blk w1 w.heap.size 95 #[.int .i64 0,.int .i64 0]:=by rw [<- hw1];exact (((Blk.new w 95 #[.int .i64 0,.int .i64 0]).alloc (Obj.cells #[Value.int IntKind.i64 0,Value.int IntKind.i64 0] 95)).alloc (Obj.cells #[Value.int IntKind.i64 0,Value.int IntKind.i64 0] 95)).alloc (Obj.cells #[Value.int IntKind.i64 0,Value.int IntKind.i64 0] 95)
 have k1:Blk w1 (w.heap.size+1) 95 #[.int .i64 0,.int .i64 0]:=by
  have:=((Blk.new (w.alloc (Obj.cells #[Value.int IntKind.i64 0,Value.int IntKind.i64 0] 95)) 95 #[.int .i64 0,.int .i64 0]).alloc (Obj.cells #[Value.int IntKind.i64 0,Value.int IntKind.i64 0] 95)).alloc (Obj.cells #[Value.int IntKind.i64 0,Value.int IntKind.i64 0] 95)
  rw [hw1,World.size_alloc] at this;exact this
 have k2:Blk w1 (w.heap.size+1+1) 95 #[.int .i64 0,.int .i64 0]:=by
  have:=(Blk.new ((w.alloc (Obj.cells #[Value.int IntKind.i64 0,Value.int IntKind.i64 0] 95)).alloc (Obj.cells #[Value.int IntKind.i64 0,Value.int IntKind.i64 0] 95)) 95 #[.int .i64 0,.int .i64 0]).alloc (Obj.cells #[Value.int IntKind.i64 0,Value.int IntKind.i64 0] 95)
  rw [hw1,World.size_alloc,World.size_alloc] at this;exact this
 have k3:Blk w1 (w.heap.size+1+1+1) 95 #[.int .i64 0,.int .i64 0]:=by
  have:=Blk.new (((w.alloc (Obj.cells #[Value.int IntKind.i64 0,Value.int IntKind.i64 0] 95)).alloc (Obj.cells #[Value.int IntKind.i64 0,Value.int IntKind.i64 0] 95)).alloc (Obj.cells #[Value.int IntKind.i64 0,Value.int IntKind.i64 0] 95)) 95 #[.int .i64 0,.int .i64 0]
  rw [hw1,World.size_alloc,World.size_alloc,World.size_alloc] at this;exact this
 have hb:Bl w w1:=by rw [<- hw1];exact ((((Below.refl w.heap.size w).alloc (Nat.le_refl _) (Obj.cells #[Value.int IntKind.i64 0,Value.int IntKind.i64 0] 95)).alloc (by simp;try omega) (Obj.cells #[Value.int IntKind.i64 0,Value.int IntKind.i64 0] 95)).alloc (by simp;try omega) (Obj.cells #[Value.int IntKind.i64 0,Value.int IntKind.i64 0] 95)).alloc (by simp;try omega) (Obj.cells #[Value.int IntKind.i64 0,Value.int IntKind.i64 0] 95)
 have hgl:g<w.heap.size:=H.out.lt;rw [hw1];clear hw1 H;have HR:Hid (∃ R:World->Prop,∀ W,(Blk W g 3 #[.int .i64 A,.int .i64 B]/\Blk W w.heap.size 95 #[.int .i64 0,.int .i64 0]/\Blk W (w.heap.size+1) 95 #[.int .i64 0,.int .i64 0]/\Bl w W)↔R W):=jY ⟨_,fun _=>Iff.rfl⟩;clear HR
 go_loopw [10] (fun iv wr=>∃ i:Nat,iv=.int .i64 i/\i<=2/\Blk wr g 3 #[.int .i64 A,.int .i64 B]/\Blk wr w.heap.size 95 #[.int .i64 0,.int .i64 0]/\Blk wr (w.heap.size+1) 95 #[.int .i64 0,.int .i64 0]/\Bl w wr /\
  Blk wr (w.heap.size+1+1) 95 (Pq (y5d A (sa,sb) i))/\Blk wr (w.heap.size+1+1+1) 95 (Pq (y5d A (ga,gb) i))) (fun iv _=>2-(intOf iv).toNat)
 case atStart=>exact ⟨0,rfl,by omega,kg,k0,k1,hb,k2,k3⟩
 case round =>
  clear kg k0 k1 k2 k3 hb;obtain ⟨i,rfl,hi,kg,k0,k1,hb,k2,k3⟩:=hrel;have K0:=jY k0;have K1:=jY k1;have KG:=jY kg;have HB:=jY hb;clear k0 k1 kg hb;obtain rfl|rfl|rfl:i=0\/i=1\/i=2:=by omega
  ·have c0:wr.cell? ⟨g,0,none⟩=some (.int .i64 A):=KG.out.cell 0;have c2:wr.cell? ⟨w.heap.size+1+1,1,none⟩=some (.int .i64 0):=k2.cell 1;have c3:wr.cell? ⟨w.heap.size+1+1+1,1,none⟩=some (.int .i64 0):=k3.cell 1;have K2:=jY k2;have K3:=jY k3
   by_cases hA0:A=0
   ·have hA0':(A:Int)=0:=by omega
    clear k2 k3;go_wp2;refine ⟨⟨1,rfl,by omega,KG.out,K0.out,K1.out,HB.out,?_,?_⟩,by simp [intOf]⟩
    ·have:=K2.out
     show Blk wr _ 95 #[.int .i64 0,.int .i64 A];rw [hA0'];exact this
    ·have:=K3.out
     show Blk wr _ 95 #[.int .i64 0,.int .i64 A];rw [hA0'];exact this
   ·have hA0':¬ (A:Int)=0:=by omega
    have c20:wr.cell? ⟨w.heap.size+1+1,0,none⟩=some (.int .i64 0):=k2.cell 0;have c30:wr.cell? ⟨w.heap.size+1+1+1,0,none⟩=some (.int .i64 0):=k3.cell 0;have f2:=k2.free 0;have f3:=k3.free 0;have f21:=k2.free 1;have f31:=k3.free 1;have hAp:(0:Int)<=A:=by omega
    clear k2 k3;go_wp2;refine ⟨⟨1,rfl,by omega,Zq _ _ (Zq _ _ KG.out (by omega)) (by omega),Zq _ _ (Zq _ _ K0.out (by omega)) (by omega),Zq _ _ (Zq _ _ K1.out (by omega)) (by omega),V2 _ _ (V2 _ _ HB.out (by omega)) (by omega),Zq _ _ (set2 _ _ K2.out) (by omega),set2 _ _ (Zq _ _ K3.out (by omega))⟩,by simp [intOf]⟩
  ·have c0:wr.cell? ⟨g,1,none⟩=some (.int .i64 B):=KG.out.cell 1;have c2:wr.cell? ⟨w.heap.size+1+1,1,none⟩=some (.int .i64 A):=k2.cell 1;have c3:wr.cell? ⟨w.heap.size+1+1+1,1,none⟩=some (.int .i64 A):=k3.cell 1;have c20:wr.cell? ⟨w.heap.size+1+1,0,none⟩=some (.int .i64 0):=k2.cell 0;have c30:wr.cell? ⟨w.heap.size+1+1+1,0,none⟩=some (.int .i64 0):=k3.cell 0;have f2:=k2.free 0;have f3:=k3.free 0;have f21:=k2.free 1;have f31:=k3.free 1;have K2:=jY (show Blk wr (w.heap.size+1+1) 95 #[.int .i64 0,.int .i64 A] from k2);have K3:=jY (show Blk wr (w.heap.size+1+1+1) 95 #[.int .i64 0,.int .i64 A] from k3);clear k2 k3;rcases HCS.out with ⟨q1,q2,e1,e2⟩|⟨q1,q2,e1,e2⟩|⟨q1,q2,e1,e2⟩|⟨q1,q2,q3,e1,e2⟩
   ·have q2':(B:Int)=0:=by omega
    have E1:=jY e1;have E2:=jY e2;clear q1 q2 e1 e2;go_wp2;refine ⟨⟨2,rfl,by omega,KG.out,K0.out,K1.out,HB.out,?_,?_⟩,by simp [intOf]⟩
    ·show Blk wr _ 95 (Pq (sa,sb));rw [E1.out];exact K2.out
    ·show Blk wr _ 95 (Pq (ga,gb));rw [E2.out];exact K3.out
   ·have q2':(B:Int)=0:=by omega
    have E1:=jY e1;have E2:=jY e2;clear q1 q2 e1 e2;go_wp2;refine ⟨⟨2,rfl,by omega,KG.out,K0.out,K1.out,HB.out,?_,?_⟩,by simp [intOf]⟩
    ·show Blk wr _ 95 (Pq (sa,sb));rw [E1.out];exact K2.out
    ·show Blk wr _ 95 (Pq (ga,gb));rw [E2.out];exact K3.out
   ·have q1':¬ (B:Int)=0:=by omega
    have q2':(B:Int)<A:=by omega
    have q3':¬ (A:Int)=0:=by omega
    have q4':¬ (A:Int)<=B:=by omega
    have E1:=jY e1;have E2:=jY e2;clear q1 q2 e1 e2;go_wp2;refine ⟨⟨2,rfl,by omega,Zq _ _ KG.out (by omega),Zq _ _ K0.out (by omega),Zq _ _ K1.out (by omega),V2 _ _ HB.out (by omega),?_,?_⟩,by simp [intOf]⟩
    ·show Blk _ _ 95 (Pq (sa,sb));rw [E1.out];exact set2 _ _ K2.out
    ·show Blk _ _ 95 (Pq (ga,gb));rw [E2.out];exact Zq _ _ K3.out (by omega)
   ·have q1':¬ (B:Int)=0:=by omega
    have q2':¬ (B:Int)<A:=by omega
    have q3':¬ (A:Int)=0:=by omega
    have q4':(A:Int)<=B:=by omega
    have E1:=jY e1;have E2:=jY e2;clear q1 q2 q3 e1 e2;go_wp2;refine ⟨⟨2,rfl,by omega,Zq _ _ KG.out (by omega),Zq _ _ K0.out (by omega),Zq _ _ K1.out (by omega),V2 _ _ HB.out (by omega),?_,?_⟩,by simp [intOf]⟩
    ·show Blk _ _ 95 (Pq (sa,sb));rw [E1.out];exact Zq _ _ K2.out (by omega)
    ·show Blk _ _ 95 (Pq (ga,gb));rw [E2.out];exact set2 _ _ K3.out
  ·have k2':Blk wr (w.heap.size+1+1) 95 #[.int .i64 sa,.int .i64 sb]:=k2;have k3':Blk wr (w.heap.size+1+1+1) 95 #[.int .i64 ga,.int .i64 gb]:=k3;have hb2:=jY (fun (a b c d:Value)=>V2 a b (V2 c d HB.out (show w.heap.size<=w.heap.size from Nat.le_refl _)) (show w.heap.size<=w.heap.size+1 by omega));clear k2 k3 HCS;have c0:=K0.out.cell 0;have c1:=K0.out.cell 1;have d0:=K1.out.cell 0;have d1:=K1.out.cell 1;have s0:=k2'.cell 0;have s1:=k2'.cell 1;have g0:=k3'.cell 0;have g1:=k3'.cell 1;have f0:=K0.out.free 0;have f1:=K0.out.free 1;have f2:=K1.out.free 0;have f3:=K1.out.free 1;simp at c0 c1 d0 d1 s0 s1 g0 g1;clear k2' k3';go_wp2
   go_region
   go_wp2;have kR0:=(Zq (.int .i64 ga) (.int .i64 gb) (set2 (.int .i64 sa) (.int .i64 sb) K0.out) (show w.heap.size≠w.heap.size+1 by omega)).drew;have kR1:=(set2 (.int .i64 ga) (.int .i64 gb) (Zq (.int .i64 sa) (.int .i64 sb) K1.out (show w.heap.size+1≠w.heap.size by omega))).drew;have hbR:=(hb2.out (.int .i64 ga) (.int .i64 gb) (.int .i64 sa) (.int .i64 sb)).drew;generalize ((((wr.setCell { block:=w.heap.size,off:=0 } (Value.int IntKind.i64 ↑sa)).setCell { block:=w.heap.size,off:=1 } (Value.int IntKind.i64 ↑sb)).setCell { block:=w.heap.size+1,off:=0 } (Value.int IntKind.i64 ↑ga)).setCell { block:=w.heap.size+1,off:=1 } (Value.int IntKind.i64 ↑gb)).drew=wz at *;have r0:=kR0.cell 0;have r1:=kR0.cell 1;have r2:=kR1.cell 0;have r3:=kR1.cell 1;simp at r0 r1 r2 r3;clear c0 c1 d0 d1 s0 s1 g0 g1 f0 f1 f2 f3 hb2;refine bodyPost_ret (v:=.tuple #[.agg #[.int .i64 sa,.int .i64 sb],.agg #[.int .i64 ga,.int .i64 gb]]) (w:=wz) (by simp [results,Tryz.results49,go_sem,r0,r1,r2,r3]) rfl ?_;exact ⟨rfl,hbR⟩
end Go.Proofs.YtmehfohpjigmmaaGreatDoor.Dc.Dt
namespace Go.Proofs
open Go.Shelf
def Tryz.laysGg6_ren:Go.Shelf.Ren:=⟨fun|6=>35|10=>56|11=>57|12=>58|13=>59|14=>60|24=>98|25=>99|26=>100|27=>101|28=>102|29=>103|30=>104|31=>105|32=>106|33=>107|34=>129|35=>130|36=>131|37=>132|38=>133|39=>148|n=>n,fun|20=>20|26=>78|35=>117|0=>0|37=>119|3=>3|41=>122|44=>125|49=>24|51=>173|4=>4|54=>176|53=>175|58=>180|5=>5|9=>9|60=>217|64=>221|66=>242|67=>243|17=>17|32=>114|33=>115|82=>332|12=>12|75=>327|76=>134|77=>328|78=>199|79=>329|80=>330|n=>n,fun|n=>n⟩
theorem Tryz.laysGg6:Go.Proofs.LaysGg.n6 Tryz.prog Tryz.laysGg6_ren:={
 mixed:=by kernel_rfl
 f6:=Tryz.func35.trans (congrArg some (by kernel_rfl))
 f10:=Tryz.func56.trans (congrArg some (by kernel_rfl))
 f11:=Tryz.func57.trans (congrArg some (by kernel_rfl))
 f12:=Tryz.func58.trans (congrArg some (by kernel_rfl))
 f13:=Tryz.func59.trans (congrArg some (by kernel_rfl))
 f14:=Tryz.func60.trans (congrArg some (by kernel_rfl))
 f24:=Tryz.func98.trans (congrArg some (by kernel_rfl))
 f25:=Tryz.func99.trans (congrArg some (by kernel_rfl))
 f26:=Tryz.func100.trans (congrArg some (by kernel_rfl))
 f27:=Tryz.func101.trans (congrArg some (by kernel_rfl))
 f28:=Tryz.func102.trans (congrArg some (by kernel_rfl))
 f29:=Tryz.func103.trans (congrArg some (by kernel_rfl))
 f30:=Tryz.func104.trans (congrArg some (by kernel_rfl))
 f31:=Tryz.func105.trans (congrArg some (by kernel_rfl))
 f32:=Tryz.func106.trans (congrArg some (by kernel_rfl))
 f33:=Tryz.func107.trans (congrArg some (by kernel_rfl))
 f34:=Tryz.func129.trans (congrArg some (by kernel_rfl))
 f35:=Tryz.func130.trans (congrArg some (by kernel_rfl))
 f36:=Tryz.func131.trans (congrArg some (by kernel_rfl))
 f37:=Tryz.func132.trans (congrArg some (by kernel_rfl))
 f38:=Tryz.func133.trans (congrArg some (by kernel_rfl))
 f39:=Tryz.func148.trans (congrArg some (by kernel_rfl))
 t0:=Tryz.underlying0
 a0:=Tryz.isAgg0
 z0:=Tryz.sizeOf0
 v0:=Tryz.zeroValue0
 i0:=by kernel_rfl
 t3:=Tryz.underlying3
 a3:=Tryz.isAgg3
 z3:=Tryz.sizeOf3
 v3:=Tryz.zeroValue3
 i3:=by kernel_rfl
 t4:=Tryz.underlying4
 a4:=Tryz.isAgg4
 z4:=Tryz.sizeOf4
 v4:=Tryz.zeroValue4
 i4:=by kernel_rfl
 t5:=Tryz.underlying5
 a5:=Tryz.isAgg5
 z5:=Tryz.sizeOf5
 v5:=Tryz.zeroValue5
 i5:=by kernel_rfl
 t9:=Tryz.underlying9
 a9:=Tryz.isAgg9
 z9:=Tryz.sizeOf9
 v9:=Tryz.zeroValue9
 i9:=by kernel_rfl
 t12:=Tryz.underlying12
 a12:=Tryz.isAgg12
 z12:=Tryz.sizeOf12
 v12:=Tryz.zeroValue12
 i12:=by kernel_rfl
 t17:=Tryz.underlying17
 a17:=Tryz.isAgg17
 z17:=Tryz.sizeOf17
 v17:=Tryz.zeroValue17
 i17:=by kernel_rfl
 t20:=Tryz.underlying20
 a20:=Tryz.isAgg20
 z20:=Tryz.sizeOf20
 v20:=Tryz.zeroValue20
 i20:=by kernel_rfl
 t26:=Tryz.underlying78
 a26:=Tryz.isAgg78
 z26:=Tryz.sizeOf78
 v26:=Tryz.zeroValue78
 i26:=by kernel_rfl
 t32:=Tryz.underlying114
 a32:=Tryz.isAgg114
 z32:=Tryz.sizeOf114
 v32:=Tryz.zeroValue114
 i32:=by kernel_rfl
 t33:=Tryz.underlying115
 a33:=Tryz.isAgg115
 z33:=Tryz.sizeOf115
 v33:=Tryz.zeroValue115
 i33:=by kernel_rfl
 t35:=Tryz.underlying117
 a35:=Tryz.isAgg117
 z35:=Tryz.sizeOf117
 v35:=Tryz.zeroValue117
 i35:=by kernel_rfl
 t37:=Tryz.underlying119
 a37:=Tryz.isAgg119
 z37:=Tryz.sizeOf119
 v37:=Tryz.zeroValue119
 i37:=by kernel_rfl
 t41:=Tryz.underlying122
 a41:=Tryz.isAgg122
 z41:=Tryz.sizeOf122
 v41:=Tryz.zeroValue122
 i41:=by kernel_rfl
 t44:=Tryz.underlying125
 a44:=Tryz.isAgg125
 z44:=Tryz.sizeOf125
 v44:=Tryz.zeroValue125
 i44:=by kernel_rfl
 t49:=Tryz.underlying24
 a49:=Tryz.isAgg24
 z49:=Tryz.sizeOf24
 v49:=Tryz.zeroValue24
 i49:=by kernel_rfl
 t51:=Tryz.underlying173
 a51:=Tryz.isAgg173
 z51:=Tryz.sizeOf173
 v51:=Tryz.zeroValue173
 i51:=by kernel_rfl
 t53:=Tryz.underlying175
 a53:=Tryz.isAgg175
 z53:=Tryz.sizeOf175
 v53:=Tryz.zeroValue175
 i53:=by kernel_rfl
 t54:=Tryz.underlying176
 a54:=Tryz.isAgg176
 z54:=Tryz.sizeOf176
 v54:=Tryz.zeroValue176
 i54:=by kernel_rfl
 t58:=Tryz.underlying180
 a58:=Tryz.isAgg180
 z58:=Tryz.sizeOf180
 v58:=Tryz.zeroValue180
 i58:=by kernel_rfl
 t60:=Tryz.underlying217
 a60:=Tryz.isAgg217
 z60:=Tryz.sizeOf217
 v60:=Tryz.zeroValue217
 i60:=by kernel_rfl
 t64:=Tryz.underlying221
 a64:=Tryz.isAgg221
 z64:=Tryz.sizeOf221
 v64:=Tryz.zeroValue221
 i64:=by kernel_rfl
 t66:=Tryz.underlying242
 a66:=Tryz.isAgg242
 z66:=Tryz.sizeOf242
 v66:=Tryz.zeroValue242
 i66:=by kernel_rfl
 t67:=Tryz.underlying243
 a67:=Tryz.isAgg243
 z67:=Tryz.sizeOf243
 v67:=Tryz.zeroValue243
 i67:=by kernel_rfl
 t75:=Tryz.underlying327
 a75:=Tryz.isAgg327
 z75:=Tryz.sizeOf327
 v75:=Tryz.zeroValue327
 i75:=by kernel_rfl
 t76:=Tryz.underlying134
 a76:=Tryz.isAgg134
 z76:=Tryz.sizeOf134
 v76:=Tryz.zeroValue134
 i76:=by kernel_rfl
 t77:=Tryz.underlying328
 a77:=Tryz.isAgg328
 z77:=Tryz.sizeOf328
 v77:=Tryz.zeroValue328
 i77:=by kernel_rfl
 t78:=Tryz.underlying199
 a78:=Tryz.isAgg199
 z78:=Tryz.sizeOf199
 v78:=Tryz.zeroValue199
 i78:=by kernel_rfl
 t79:=Tryz.underlying329
 a79:=Tryz.isAgg329
 z79:=Tryz.sizeOf329
 v79:=Tryz.zeroValue329
 i79:=by kernel_rfl
 t80:=Tryz.underlying330
 a80:=Tryz.isAgg330
 z80:=Tryz.sizeOf330
 v80:=Tryz.zeroValue330
 i80:=by kernel_rfl
 t82:=Tryz.underlying332
 a82:=Tryz.isAgg332
 z82:=Tryz.sizeOf332
 v82:=Tryz.zeroValue332
 i82:=by kernel_rfl }
end Go.Proofs
namespace Go.Proofs.YtmehfohpjigmmaaGreatDoor.Dc.Dt
open Zc
open Go.RowKit Go.Shelf Go.Sort
attribute [local go_sem] Oper.semAt_some
def Own9(W:World)(base:Nat)(v:Value)(ks:List (List UInt8)):Prop:=W.ownsRow base 9 1 v ks.length (ks.map encStr)
theorem Own9.below{W W':World}{base:Nat}{v:Value}{ks:List (List UInt8)}(h:Own9 W base v ks)(hb:Bl W W'):Own9 W' base v ks :=
 h.kept (row:=none) ⟨hb.os,hb.tape,hb.output,hb.size,fun k hk _=>hb.block k hk⟩ (by
  cases hv:v.ownBlock with
  | none=>exact .inl rfl
  | some k=>exact .inr (by simp))
section
variable {S:Nat->Prop} {p seed:Nat} {D:Dc} {w:World}
end
theorem Own9.mono{W:World}{n0 n1:Nat}{v:Value}{l:List (List UInt8)}(h:Own9 W n0 v l)(hn:n1<=n0):Own9 W n1 v l:=by
 refine ⟨h.1,?_⟩;rcases h.2 with hn|⟨g,cap,cur,rfl,hb',rest⟩
 ·exact .inl hn
 ·exact .inr ⟨g,cap,cur,rfl,Nat.le_trans hn hb',rest⟩
theorem z1n(x:Nat × Nat)(c:Nat)(w:World):Calls Tryz.prog 81 #[I6 x,.int .u32 c] w fun e w' =>
 e=.returned (.func (.func 118) #[] #[.pointer (some ⟨w.heap.size+1,0,none⟩),.pointer (some ⟨w.heap.size,0,none⟩)])/\w'=(w.alloc (Obj.cells #[.int .i64 x.1,.int .i64 x.2] 95)).alloc (Obj.cells #[.int .u32 c] 24):=by
 unfold I6
 go_enter Tryz.func81,Tryz.ntmps81
 go_wp2;go_ret;exact ⟨rfl,rfl⟩
section
variable {S:Nat->Prop} {p seed:Nat} {D:Dc} {w:World}
end
end Go.Proofs.YtmehfohpjigmmaaGreatDoor.Dc.Dt
namespace Go.Proofs.YtmehfohpjigmmaaGreatDoor.Dc.Dt
open Zc
open Go.RowKit Go.Shelf
end Go.Proofs.YtmehfohpjigmmaaGreatDoor.Dc.Dt
namespace Go.Proofs.YtmehfohpjigmmaaGreatDoor.Dc.Dt
open Zc
open Go.RowKit Go.Shelf Go.Sort
attribute [local go_sem] Oper.semAt_some
section
variable {S:Nat->Prop} {p seed:Nat} {D:Dc} {w:World}
end
section
variable {seed:Nat} {D:Dc}
end
def y5k(k:List UInt8):ByteArray:=⟨k.toArray⟩
section
variable {w:World} {S:Nat->Prop} {p seed:Nat} {m:ByteArray->Option Addr} {n:Sh}
end
end Go.Proofs.YtmehfohpjigmmaaGreatDoor.Dc.Dt
namespace Go.Proofs.YtmehfohpjigmmaaGreatDoor.Dc.Dt
open Zc
end Go.Proofs.YtmehfohpjigmmaaGreatDoor.Dc.Dt
namespace Go.Proofs.YtmehfohpjigmmaaGreatDoor.Dc.Dt
open Zc
open Go.RowKit Go.Shelf Go.Sort
attribute [local go_sem] Oper.semAt_some
theorem no0:isS ((0:Nat):Int)=false:=by decide +kernel
theorem F9(num s c:Nat)(hs:isS (s:Int)=false)(hc:c<4294967296)(B1 B2:Nat)(w:World)(h1:Blk w B1 24 #[.int .u32 c])(h2:Blk w B2 95 #[.int .i64 num,.int .i64 s])(L:List Nat) :
 Zc.Kn Sc.itT Tryz.prog 118 #[.pointer (some ⟨B1,0,none⟩),.pointer (some ⟨B2,0,none⟩)] Ih [] L w:=by
 intro l J Jx W hW hJ hJx hY hJ0;have k1:=h1.later hW;have K2:=jY (h2.later hW);obtain ⟨d1,e1⟩:=Z4 k1;have e2:W.cell? ⟨B2,1,none⟩=some (.int .i64 s):=K2.out.cell 1
 have HSL:=fun W=>jY (show Calls Tryz.prog 116 #[.int .u32 c,.int .i64 s] W fun e w'=>e=.returned (.tuple #[.int .i64 0,.int .i64 2])/\Bl W w' by
  have:=Vs c hc s W
  unfold Pp at this
  rwa [if_neg (by rw [hs];decide)] at this)
 have HNX:=fun W=>jY (z4b c s hs W);clear hY h1 h2 k1;refine callsIn_of_wp Tryz.func118 rfl trivial ?_ rfl;simp only [Tryz.ntmps118,List.size_toArray,List.length_cons,List.length_nil,Nat.reduceAdd,Nat.reduceSub,Array.replicate_succ,Array.replicate_zero,List.push_toArray,List.append_toArray,List.nil_append,List.cons_append];gi_wp2
 gi_loopw [4,5] (fun av mv wr=>(av=.int .u32 c/\mv=.bool true/\wr=W/\J 0 wr)\/(mv=.bool false/\J 0 wr)) (fun _ mv _=>match mv with|.bool true=>1|_=>0)
 case atStart=>exact .inl ⟨rfl,rfl,rfl,hJ0⟩
 case round =>
  rcases hrel with ⟨rfl,rfl,rfl,hJi⟩|⟨rfl,hJi⟩
  ·gi_wp2_with fail
   refine ⟨trivial,?_⟩;refine callsIn_wide.2 (Calls.mono (HSL _).out ?_);rintro e w2 ⟨rfl,hb2⟩;have e3:w2.cell? ⟨B2,1,none⟩=some (.int .i64 s):=(K2.out.later hb2).cell 1;have hJ2:=hJ _ _ _ hJi hb2;clear hb2 hJi
   gi_wp2_with fail
   refine ⟨trivial,?_⟩;refine callsIn_wide.2 (Calls.mono (HNX _).out ?_);rintro e w3 ⟨rfl,hb3⟩;have hJ3:=hJ _ _ _ hJ2 hb3;clear hb3 hJ2;gi_wp2;refine ⟨fun _ h=>(by cases h),?_⟩;gi_wp2;exact ⟨.inr ⟨rfl,hJ3⟩,by decide⟩
  ·gi_wp2
   go_end0
   exact ⟨⟨_,rfl⟩,.inl hJi⟩
theorem Br(t s g c:Nat)(hs:isS (s:Int)=false)(hc:c<4294967296)(w:World):Calls Tryz.prog 50 #[.pointer none,I6 (t,s),.int .u32 c,.int .u32 g] w fun e w'=>∃ u,e=.returned (.tuple #[u,.int .u32 (0:Nat)])/\Own9 w' w.heap.size u []/\Bl w w':=by
 refine (callsIn_wide (n:=6)).1 (callsIn_of_wp_marks Tryz.func50 rfl trivial ?_ rfl);refine wpIn_wide.2 ?_;simp only [Tryz.ntmps50,List.size_toArray,List.length_cons,List.length_nil,Nat.reduceAdd,Nat.reduceSub,Array.replicate_succ,Array.replicate_zero,List.push_toArray,List.append_toArray,List.nil_append,List.cons_append];have HMK:=fun W=>jY (z1n (t,s) c W);unfold I6 at HMK ⊢;simp only at HMK ⊢;go_wp2;refine wp_scope_straight ?_;go_wp2;refine wp_label ?_;go_wp2_with fail
 (with_reducible refine (HMK _).out.mono ?_)
 rintro e w1 ⟨rfl,rfl⟩;go_wp2;obtain ⟨w1,hw1⟩:∃ w1,(((((((w.alloc (Obj.cells #[Value.pointer none] 52)).alloc (Obj.cells #[Value.int IntKind.i64 ↑t,Value.int IntKind.i64 ↑s] 95)).alloc (Obj.cells #[Value.int IntKind.u32 ↑g] 24)).alloc (Obj.cells #[Value.slice none 0 0] 42)).alloc (Obj.cells #[Value.int IntKind.u32 0] 24)).alloc (Obj.cells #[Value.int IntKind.i64 ↑t,Value.int IntKind.i64 ↑s] 95)).alloc (Obj.cells #[Value.int IntKind.u32 ↑c] 24))=w1:=⟨_,rfl⟩
 have k0:Blk w1 (w.heap.size) 52 #[Value.pointer none]:=by
  rw [<- hw1]
  have:=((((((Blk.new w 52 #[Value.pointer none]).alloc (Obj.cells #[Value.int IntKind.i64 ↑t,Value.int IntKind.i64 ↑s] 95)).alloc (Obj.cells #[Value.int IntKind.u32 ↑g] 24)).alloc (Obj.cells #[Value.slice none 0 0] 42)).alloc (Obj.cells #[Value.int IntKind.u32 0] 24)).alloc (Obj.cells #[Value.int IntKind.i64 ↑t,Value.int IntKind.i64 ↑s] 95)).alloc (Obj.cells #[Value.int IntKind.u32 ↑c] 24)
  (try simp only [World.size_alloc] at this)
  exact this
 have k1:Blk w1 (w.heap.size+1) 95 #[Value.int IntKind.i64 ↑t,Value.int IntKind.i64 ↑s]:=by
  rw [<- hw1]
  have:=(((((Blk.new (w.alloc (Obj.cells #[Value.pointer none] 52)) 95 #[Value.int IntKind.i64 ↑t,Value.int IntKind.i64 ↑s]).alloc (Obj.cells #[Value.int IntKind.u32 ↑g] 24)).alloc (Obj.cells #[Value.slice none 0 0] 42)).alloc (Obj.cells #[Value.int IntKind.u32 0] 24)).alloc (Obj.cells #[Value.int IntKind.i64 ↑t,Value.int IntKind.i64 ↑s] 95)).alloc (Obj.cells #[Value.int IntKind.u32 ↑c] 24)
  (try simp only [World.size_alloc] at this)
  exact this
 have k2:Blk w1 (w.heap.size+1+1) 24 #[Value.int IntKind.u32 ↑g]:=by
  rw [<- hw1]
  have:=((((Blk.new ((w.alloc (Obj.cells #[Value.pointer none] 52)).alloc (Obj.cells #[Value.int IntKind.i64 ↑t,Value.int IntKind.i64 ↑s] 95)) 24 #[Value.int IntKind.u32 ↑g]).alloc (Obj.cells #[Value.slice none 0 0] 42)).alloc (Obj.cells #[Value.int IntKind.u32 0] 24)).alloc (Obj.cells #[Value.int IntKind.i64 ↑t,Value.int IntKind.i64 ↑s] 95)).alloc (Obj.cells #[Value.int IntKind.u32 ↑c] 24)
  (try simp only [World.size_alloc] at this)
  exact this
 have k3:Blk w1 (w.heap.size+1+1+1) 42 #[Value.slice none 0 0]:=by
  rw [<- hw1]
  have:=(((Blk.new (((w.alloc (Obj.cells #[Value.pointer none] 52)).alloc (Obj.cells #[Value.int IntKind.i64 ↑t,Value.int IntKind.i64 ↑s] 95)).alloc (Obj.cells #[Value.int IntKind.u32 ↑g] 24)) 42 #[Value.slice none 0 0]).alloc (Obj.cells #[Value.int IntKind.u32 0] 24)).alloc (Obj.cells #[Value.int IntKind.i64 ↑t,Value.int IntKind.i64 ↑s] 95)).alloc (Obj.cells #[Value.int IntKind.u32 ↑c] 24)
  (try simp only [World.size_alloc] at this)
  exact this
 have k4:Blk w1 (w.heap.size+1+1+1+1) 24 #[Value.int IntKind.u32 0]:=by
  rw [<- hw1]
  have:=((Blk.new ((((w.alloc (Obj.cells #[Value.pointer none] 52)).alloc (Obj.cells #[Value.int IntKind.i64 ↑t,Value.int IntKind.i64 ↑s] 95)).alloc (Obj.cells #[Value.int IntKind.u32 ↑g] 24)).alloc (Obj.cells #[Value.slice none 0 0] 42)) 24 #[Value.int IntKind.u32 0]).alloc (Obj.cells #[Value.int IntKind.i64 ↑t,Value.int IntKind.i64 ↑s] 95)).alloc (Obj.cells #[Value.int IntKind.u32 ↑c] 24)
  (try simp only [World.size_alloc] at this)
  exact this
 have k5:Blk w1 (w.heap.size+1+1+1+1+1) 95 #[Value.int IntKind.i64 ↑t,Value.int IntKind.i64 ↑s]:=by
  rw [<- hw1]
  have:=(Blk.new (((((w.alloc (Obj.cells #[Value.pointer none] 52)).alloc (Obj.cells #[Value.int IntKind.i64 ↑t,Value.int IntKind.i64 ↑s] 95)).alloc (Obj.cells #[Value.int IntKind.u32 ↑g] 24)).alloc (Obj.cells #[Value.slice none 0 0] 42)).alloc (Obj.cells #[Value.int IntKind.u32 0] 24)) 95 #[Value.int IntKind.i64 ↑t,Value.int IntKind.i64 ↑s]).alloc (Obj.cells #[Value.int IntKind.u32 ↑c] 24)
  (try simp only [World.size_alloc] at this)
  exact this
 have k6:Blk w1 (w.heap.size+1+1+1+1+1+1) 24 #[Value.int IntKind.u32 ↑c]:=by
  rw [<- hw1]
  have:=Blk.new ((((((w.alloc (Obj.cells #[Value.pointer none] 52)).alloc (Obj.cells #[Value.int IntKind.i64 ↑t,Value.int IntKind.i64 ↑s] 95)).alloc (Obj.cells #[Value.int IntKind.u32 ↑g] 24)).alloc (Obj.cells #[Value.slice none 0 0] 42)).alloc (Obj.cells #[Value.int IntKind.u32 0] 24)).alloc (Obj.cells #[Value.int IntKind.i64 ↑t,Value.int IntKind.i64 ↑s] 95)) 24 #[Value.int IntKind.u32 ↑c]
  (try simp only [World.size_alloc] at this)
  exact this
 have hb:Bl w w1:=by rw [<- hw1];exact (((((((Below.refl w.heap.size w).alloc (by (try simp only [World.size_alloc]);omega) (Obj.cells #[Value.pointer none] 52)).alloc (by (try simp only [World.size_alloc]);omega) (Obj.cells #[Value.int IntKind.i64 ↑t,Value.int IntKind.i64 ↑s] 95)).alloc (by (try simp only [World.size_alloc]);omega) (Obj.cells #[Value.int IntKind.u32 ↑g] 24)).alloc (by (try simp only [World.size_alloc]);omega) (Obj.cells #[Value.slice none 0 0] 42)).alloc (by (try simp only [World.size_alloc]);omega) (Obj.cells #[Value.int IntKind.u32 0] 24)).alloc (by (try simp only [World.size_alloc]);omega) (Obj.cells #[Value.int IntKind.i64 ↑t,Value.int IntKind.i64 ↑s] 95)).alloc (by (try simp only [World.size_alloc]);omega) (Obj.cells #[Value.int IntKind.u32 ↑c] 24)
 have hz1:w1.heap.size=w.heap.size+7:=by rw [<- hw1];simp only [World.size_alloc]
 rw [hw1];clear hw1;have hseq:=F9 t s c hs hc (w.heap.size+1+1+1+1+1+1) (w.heap.size+1+1+1+1+1) w1 k6 k5 []
 refine (wpIn_wide (n:=6)).1 (Zc.Xi (gf:=118) (lb:=#[Value.pointer (some { block:=w.heap.size+1+1+1+1+1+1,off:=0 }),Value.pointer (some { block:=w.heap.size+1+1+1+1+1,off:=0 })]) (encs:=Ih) (xs:=[]) (L:=[]) rfl (enters_of Tryz.func118 (by kernel_rfl) rfl) hseq (fun _ _=>rfl)
  (fun i W=>Bl w W/\Blk W (w.heap.size+1+1+1) 42 #[.slice none 0 0]/\Blk W (w.heap.size+1+1+1+1) 24 #[.int .u32 0])
  (fun _ _ _=>False)
  ?hI (fun _=>Z0 _ _) ?h0 (fun _ _ _ _=>True) (fun _ _ _=>Z0 _ _) ?assign ?body ?done (fun _ _ _ _ _ h _=>h.elim))
 case hI=>exact (Z6 _ w (by omega)).and ((Zb _ _ _ _).and (Zb _ _ _ _))
 case h0=>exact ⟨hb,k3,k4⟩
 case assign =>
  rintro l i x W K hx';simp at hx'
 case body =>
  rintro l i x a' W hx';simp at hx'
 case done =>
  rintro DD W hD ⟨hb',q3,q4⟩ hK;obtain ⟨c3,f3⟩:=Z4 q3;obtain ⟨c4,f4⟩:=Z4 q4;have HK:=jY hK;have HB:=jY hb';clear hseq hK q3 q4 hb' k0 k1 k2 k3 k4 k5 k6 hb;simp only [Exit.inBlock,Exit.then];go_wp2
  go_region
  go_wp2;simp only [Exit.noGoto];exact Zp (v:=.tuple #[.slice none 0 0,.int .u32 0]) rfl HK.out (by simp [results,Tryz.results50,go_sem]) ⟨_,rfl,World.ownsRow_nil _ _ _ _,Z9 HB.out.drew (by omega) _⟩
theorem Dh(c A B At:Nat)(sa sb:Nat)(nx:Nat)(KS:List (List UInt8))(w:World)
 (HSZ:Hid (Calls Tryz.prog 47 #[.pointer none] w fun e w'=>e=.returned (.tuple #[.int .i64 A,.int .i64 B,.int .i64 At])/\Bl w w'))
 (HOR:∀ g W,Blk W g 3 #[.int .i64 A,.int .i64 B]->Hid (Calls Tryz.prog 49 #[.slice (some ⟨g,0,none⟩) 2 2] W fun e w'=>e=.returned (.tuple #[I6 (sa,sb),I6 (sa,sb)])/\Bl W w'))
 (HST:∀ W,Bl w W->Hid (Calls Tryz.prog 50 #[.pointer none,I6 (sa,sb),.int .u32 c,.int .u32 0] W fun e w'=>∃ u,e=.returned (.tuple #[u,.int .u32 nx])/\Own9 w' W.heap.size u KS/\Bl W w')) :
 Calls Tryz.prog 27 #[.pointer none,.int .u32 c] w fun e w'=>∃ u,e=.returned (.tuple #[u,.int .u32 nx])/\Own9 w' w.heap.size u KS/\Bl w w':=by
 unfold I6 at HOR HST;simp only at HOR HST
 go_enter Tryz.func27,Tryz.ntmps27
 go_wp2_with fail
 (with_reducible refine HSZ.out.mono ?_)
 rintro e w1 ⟨rfl,hb1⟩;go_wp2_with fail
 (with_reducible refine (HOR _ _ (Blk.new w1 3 #[.int .i64 A,.int .i64 B])).out.mono ?_)
 rintro e w2 ⟨rfl,hb2⟩;have hb3:=hb1.trans (((Below.refl w1.heap.size w1).alloc (Nat.le_refl _) (Obj.cells #[Value.int IntKind.i64 A,Value.int IntKind.i64 B] 3)).trans (hb2.mono (by simp)) |>.mono hb1.size);have HB3:=jY hb3;clear hb1 hb2 hb3
 go_upto_region 3 with fail
 have k9:=(Blk.new w2 95 #[Value.int IntKind.i64 sa,Value.int IntKind.i64 sb]).alloc (Obj.cells #[Value.int IntKind.i64 sa,Value.int IntKind.i64 sb] 95);have k10:=Blk.new (w2.alloc (Obj.cells #[Value.int IntKind.i64 sa,Value.int IntKind.i64 sb] 95)) 95 #[Value.int IntKind.i64 sa,Value.int IntKind.i64 sb];rw [World.size_alloc] at k10;have hb4:=(HB3.out.alloc HB3.out.size (Obj.cells #[Value.int IntKind.i64 sa,Value.int IntKind.i64 sb] 95)).alloc (by have:=HB3.out.size;simp;omega) (Obj.cells #[Value.int IntKind.i64 sa,Value.int IntKind.i64 sb] 95);have hz2:=HB3.out.size;generalize ((w2.alloc (Obj.cells #[Value.int IntKind.i64 sa,Value.int IntKind.i64 sb] 95)).alloc (Obj.cells #[Value.int IntKind.i64 sa,Value.int IntKind.i64 sb] 95))=w3 at *;have s0:=k9.cell 0;have s1:=k9.cell 1;have g0:=k10.cell 0;have g1:=k10.cell 1;simp at s0 s1 g0 g1;have HST3:=HST w3 hb4;have K9:=jY k9;have K10:=jY k10;have HB4:=jY hb4;clear k9 k10 hb4;go_wp2_with fail
 (with_reducible refine HST3.out.mono ?_)
 rintro e w4 ⟨u,rfl,hO,hb5⟩;have hb6:=HB4.out.trans (hb5.mono HB4.out.size);have K9b:=K9.out.later hb5;have K10b:=K10.out.later hb5;have t0:=K9b.cell 0;have t1:=K9b.cell 1;have y0:=K10b.cell 0;have y1:=K10b.cell 1;simp at t0 t1 y0 y1;have HO:=jY hO;have HB6:=jY hb6;have hz3:=HB4.out.size;have hz9:=hb5.size;have K9c:=jY K9b;have K10c:=jY K10b;clear hO hb5 hb6 K9b K10b s0 s1 g0 g1;go_wp2;go_ret2;exact ⟨_,rfl,HO.out.mono hz3,HB6.out⟩
theorem Gc(w:World):Calls Tryz.prog 47 #[.pointer none] w fun e w'=>e=.returned (.tuple #[.int .i64 0,.int .i64 0,.int .i64 0])/\w'=w:=by
 go_enter Tryz.func47,Tryz.ntmps47
 go_wp2
 go_ret3
 exact ⟨rfl,rfl⟩
theorem Bd(c:Nat)(hc:c<4294967296)(w:World):Calls Tryz.prog 27 #[.pointer none,.int .u32 c] w fun e w'=>∃ u,e=.returned (.tuple #[u,.int .u32 (0:Nat)])/\Own9 w' w.heap.size u []/\Bl w w' :=
 Dh c 0 0 0 0 0 0 [] w (jY ((Gc w).mono fun e w' ⟨h1,h2⟩=>⟨h1,by subst h2;exact Below.refl _ _⟩))
  (fun g W hk=>jY (Cs 0 0 (by omega) (by omega) (fun _=>rfl) g W hk)) (fun W _=>jY (Br 0 0 0 c no0 hc W))
section
variable {S:Nat->Prop} {p seed:Nat} {D:Dc} {w:World} {m:ByteArray->Option Addr}
end
end Go.Proofs.YtmehfohpjigmmaaGreatDoor.Dc.Dt

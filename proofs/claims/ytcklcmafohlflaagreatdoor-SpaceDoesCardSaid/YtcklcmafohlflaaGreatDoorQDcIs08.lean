/- Texts of one kind in one: DcIs, DtMem, DtPut, DtRep, DtGrow, DtMove, DtStep. -/
import Derived.Test.YtcklcmafohlflaaGreatDoorQShelf07
set_option maxRecDepth 200000
set_option maxHeartbeats 8000000
namespace Go.Proofs.YtcklcmafohlflaaGreatDoor.Dc
open Zc
open Go.RowKit Go.Shelf
attribute [local go_sem] Oper.semAt_some
structure Sh where
 A:Nat
 B:Nat
 At:Nat
 n:Nat
def Dc.shape(D:Dc):Sh:=⟨D.a.length,D.b.length,D.place,D.n⟩
def Sh.step1(h:Sh):Sh:=if h.B=0 then h else if h.At+1=h.A then ⟨h.B,0,0,h.n⟩ else ⟨h.A,h.B,h.At+1,h.n⟩
def Sh.steps:Nat->Sh->Sh
 | 0,h=>h
 | k+1,h=>(Sh.steps k h).step1
def Sh.left(h:Sh):Nat:=if h.B=0 then 0 else h.A-h.At
def Sh.grown(h:Sh):Sh:=if h.B=0/\h.A<=h.n/\h.A<65536 then ⟨h.A,Zu (2*h.n:Nat),h.At,h.n⟩ else h
def Sh.shrunk(h:Sh):Sh:=if h.B=0/\4<h.A/\8*h.n<h.A then ⟨h.A,Zu h.n,h.At,h.n⟩ else h
def Sh.more(h:Sh):Sh:=⟨h.A,h.B,h.At,h.n+1⟩
def Sh.fewer(h:Sh):Sh:=⟨h.A,h.B,h.At,h.n-1⟩
def Sh.set(h:Sh)(is:Bool):Sh:=bif is then h.step1 else h.step1.grown.more
def Sh.del(h:Sh)(is:Bool):Sh:=bif is then h.step1.fewer.shrunk else h.step1
theorem Bu(D:Dc):D.b=[]↔D.b.length=0:=⟨fun e=>by rw [e];rfl,List.eq_nil_of_length_eq_zero⟩
theorem z9k{D:Dc}(hb:D.b≠[]):D.move1.shape=D.shape.step1:=by
 have h0:¬ D.b.length=0:=fun e=>hb ((Bu D).2 e);unfold Dc.move1 Sh.step1 Dc.shape;rw [if_neg h0]
 by_cases h1:D.place+1=D.a.length
 ·rw [if_pos h1,if_pos h1,Yp];rfl
 ·rw [if_neg h1,if_neg h1,List.length_set,Yp]
theorem Cq{h:Sh}(hb:h.B=0):∀ k,Sh.steps k h=h
 | 0=>rfl
 | k+1=>by rw [Sh.steps,Cq hb k,Sh.step1,if_pos hb]
theorem y3w(D:Dc):D.shape.left=D.left:=by
 unfold Sh.left Dc.left Dc.shape
 by_cases hb:D.b=[]
 ·rw [if_pos hb,if_pos ((Bu D).1 hb)]
 ·rw [if_neg hb,if_neg (fun e=>hb ((Bu D).2 e))]
theorem Ib{T:Ty}{D:Dc}(ok:D.Ok T):∀ k,k<=D.left->(Dc.run k D).shape=Sh.steps k D.shape
 | 0,_=>rfl
 | k+1,hk=>by
   obtain ⟨_,_,_,h4⟩:=Pe ok k (by omega);obtain ⟨h5,_⟩:=h4 (by omega);show (Dc.run k D).move1.shape=_;rw [z9k h5,Ib ok k (by omega)];rfl
theorem z3f(h:Sh)(k:Nat):∀ j,Sh.steps (k+j) h=Sh.steps j (Sh.steps k h)
 | 0=>rfl
 | j+1=>by rw [<- Nat.add_assoc,Sh.steps,z3f h k j];rfl
theorem Pz{T:Ty}{D:Dc}(ok:D.Ok T)(n:Nat):(D.step n).shape=Sh.steps n D.shape:=by
 unfold Dc.step;rcases Nat.le_total n D.left with h|h
 ·rw [Nat.min_eq_left h];exact Ib ok n h
 ·rw [Nat.min_eq_right h,Ib ok _ (lAd _)];obtain ⟨j,rfl⟩:∃ j,n=D.left+j:=⟨n-D.left,by omega⟩;rw [z3f];refine (Cq ?_ j).symm;rw [<- Ib ok _ (lAd _)];obtain ⟨ok1,h2,_⟩:=Pe ok _ (lAd _);have h3:(Dc.run D.left D).left=0:=by omega
  show (Dc.run D.left D).b.length=0;generalize Dc.run D.left D=D' at *
  by_cases hb:D'.b=[]
  ·rw [hb];rfl
  ·have:=ok1.place hb
   have h4:D'.left=D'.a.length-D'.place:=by unfold Dc.left;rw [if_neg hb]
   omega
theorem z9j(D:Dc):D.grown.shape=D.shape.grown:=by
 unfold Dc.grown Sh.grown Dc.shape
 by_cases h:D.b=[]/\D.a.length<=D.n/\D.a.length<65536
 ·rw [if_pos h,if_pos ⟨(Bu D).1 h.1,h.2⟩];simp [Dc.begin]
 ·rw [if_neg h,if_neg (fun e=>h ⟨(Bu D).2 e.1,e.2⟩)]
theorem z6c(D:Dc):D.shrunk.shape=D.shape.shrunk:=by
 unfold Dc.shrunk Sh.shrunk Dc.shape
 by_cases h:D.b=[]/\4<D.a.length/\8*D.n<D.a.length
 ·rw [if_pos h,if_pos ⟨(Bu D).1 h.1,h.2⟩];simp [Dc.begin]
 ·rw [if_neg h,if_neg (fun e=>h ⟨(Bu D).2 e.1,e.2⟩)]
theorem z2z(D:Dc)(s j:Nat)(f:List Nd->List Nd):(D.upd s j f).shape=D.shape:=by
 unfold Dc.upd Dc.shape
 split <;> simp
theorem y9p(D:Dc)(x:Nd):(D.add x).shape=D.shape.more:=by
 unfold Dc.add Dc.shape Sh.more
 split <;> simp [Yz]
theorem z2y{T:Ty}{D:Dc}(ok:D.Ok T)(s:Nat)(key:ByteArray)(v:Value):(D.setS s key v).shape=D.shape.set ((D.step 1).hit s key).isSome:=by
 have h1:=Pz ok 1;have h2:(D.step 1).shape=D.shape.step1:=h1;unfold Dc.setS
 cases (D.step 1).hit s key with
 | none=>simp only [y9p,z9j,h2];rfl
 | some ji=>simp only [z2z,h2];rfl
theorem z2x{T:Ty}{D:Dc}(ok:D.Ok T)(s:Nat)(key:ByteArray):(D.delS s key).shape=D.shape.del ((D.step 1).hit s key).isSome:=by
 have h1:=Pz ok 1;have h2:(D.step 1).shape=D.shape.step1:=h1;unfold Dc.delS
 cases (D.step 1).hit s key with
 | none=>simp only [h2];rfl
 | some ji =>
   simp only [z6c]
   have:(((D.step 1).upd s ji.1 (·.eraseIdx ji.2)).less).shape=(D.step 1).shape.fewer:=by
    have h3:=z2z (D.step 1) s ji.1 (·.eraseIdx ji.2);unfold Dc.shape at h3;unfold Dc.less Dc.shape Sh.fewer
    injection h3 with e1 e2 e3 e4
    simp only [e1,e2,e3,e4]
   rw [this,h2];rfl
theorem Ic(h:Sh):h.step1.n=h.n:=by unfold Sh.step1;split;rfl;split <;> rfl
theorem y6o(h:Sh):∀ k,(Sh.steps k h).n=h.n
 | 0=>rfl
 | k+1=>by rw [Sh.steps,Ic,y6o h k]
theorem y9q(h:Sh):h.grown.n=h.n:=by unfold Sh.grown;split <;> rfl
theorem y3x(h:Sh):h.shrunk.n=h.n:=by unfold Sh.shrunk;split <;> rfl
theorem y6e(h:Sh)(is:Bool):(h.set is).n=bif is then h.n else h.n+1:=by
 cases is with
 | true=>exact Ic h
 | false=>show h.step1.grown.n+1=h.n+1;rw [y9q,Ic]
theorem y6d(h:Sh)(is:Bool):(h.del is).n=bif is then h.n-1 else h.n:=by
 cases is with
 | true=>show h.step1.fewer.shrunk.n=h.n-1;rw [y3x];show h.step1.n-1=_;rw [Ic]
 | false=>exact Ic h
def Is(W:World)(p:Nat)(S:Nat->Prop)(seed:Nat)(m:ByteArray->Option Int)(n:Sh):Prop :=
 ∃ D,Rep tyI W p S seed D/\Like tyI seed D (fun k=>(m k).map (Value.int .i64))/\D.shape=n
def z1d(m:ByteArray->Option Int)(key:ByteArray)(v:Int):ByteArray->Option Int:=fun k=>if k=key then some v else m k
def z5w(m:ByteArray->Option Int)(key:ByteArray):ByteArray->Option Int:=fun k=>if k=key then none else m k
def IsNow(S:Nat->Prop)(W:World)(p seed:Nat)(m:ByteArray->Option Int)(n:Sh)(W':World):Prop:=Is W' p (V3 tyI S W W') seed m n/\Far S W W'
theorem Is.far{S S1:Nat->Prop}{W W':World}{p seed:Nat}{n:Sh}{m:ByteArray->Option Int}(h:Is W p S seed m n)(f:Far S1 W W')(hd:∀ k,S k->¬ S1 k):Is W' p S seed m n:=by
 obtain ⟨D,h1,h2,h3⟩:=h;exact ⟨D,h1.far f hd,h2,h3⟩
theorem Is.later{S:Nat->Prop}{W W':World}{p seed:Nat}{n:Sh}{m:ByteArray->Option Int}(h:Is W p S seed m n)(hb:Bl W W'):Is W' p S seed m n:=h.far (S1:=fun _=>False) (Far.of_below hb) fun _ _ h=>h
theorem Is.cells{S:Nat->Prop}{W:World}{p seed:Nat}{n:Sh}{m:ByteArray->Option Int}(h:Is W p S seed m n):∀ k,S k->CellB tyI W k:=by obtain ⟨D,h1,_⟩:=h;exact h1.cells
theorem Is.lt{S:Nat->Prop}{W:World}{p seed:Nat}{n:Sh}{m:ByteArray->Option Int}(h:Is W p S seed m n):∀ k,S k->k<W.heap.size:=fun k hk=>(h.cells k hk).lt
theorem IsNow.of{S:Nat->Prop}{W W':World}{p seed:Nat}{n:Sh}{m:ByteArray->Option Int}{D:Dc}(h:Went tyI S W p seed D W')(hl:Like tyI seed D (fun k=>(m k).map (Value.int .i64)))(hn:D.shape=n):IsNow S W p seed m n W':=⟨⟨D,h.1,hl,hn⟩,h.2⟩
theorem IsNow.later{S:Nat->Prop}{W W1 W2:World}{p seed:Nat}{n:Sh}{m:ByteArray->Option Int}(h:IsNow S W p seed m n W1)(hb:Bl W1 W2):IsNow S W p seed m n W2:=by
 obtain ⟨D1,h1,h2,h3⟩:=h.1;exact IsNow.of (Went.later ⟨h1,h.2⟩ hb) h2 h3
section
variable {S:Nat->Prop} {p seed:Nat} {n:Sh} {m:ByteArray->Option Int} {w:World}
theorem z4z(m:ByteArray->Option Int)(key:ByteArray)(v:Int):(fun k=>(z1d m key v k).map (Value.int .i64))=y3c (fun k=>(m k).map (Value.int .i64)) key (.int .i64 v):=by
 funext k
 unfold z1d y3c
 split <;> rfl
theorem z5a(m:ByteArray->Option Int)(key:ByteArray):(fun k=>(z5w m key k).map (Value.int .i64))=y3l (fun k=>(m k).map (Value.int .i64)) key:=by
 funext k
 unfold z5w y3l
 split <;> rfl
theorem y2m(sd:Nat)(w:World):Calls Tryz.prog 141 #[.int .u32 sd] w fun e w'=>∃ q,e=.returned (.pointer (some ⟨q,0,none⟩))/\Is w' q (fresh tyI w w') sd (fun _=>none) ⟨4,0,0,0⟩/\Bl w w' :=
 (Uv sd w).mono fun _ _ ⟨q,h1,h2,h3⟩=>⟨q,h1,⟨Du,h2,Like.new _ _,rfl⟩,h3⟩
theorem y1n(hsd:seed<4294967296)(h:Is w p S seed m n)(hn:n.n<=1000000)(key:ByteArray)(hk:key.size<=281474976710656) :
 Calls Tryz.prog 303 #[.pointer (some ⟨p,0,none⟩),.string key] w fun e w'=>e=.returned (.tuple #[.int .i64 ((m key).getD 0),.bool (m key).isSome])/\IsNow S w p seed m n.step1 w':=by
 obtain ⟨D,h1,h2,h3⟩:=h;have hn':D.n<=1000000:=by rw [<- h3] at hn;exact hn
 refine (Gy hsd h1 h2.1.ok hn' key hk).mono fun e w' ⟨he,hw⟩=>?_;obtain ⟨q1,q2,q3,q4⟩:=(h2.step 1).hit key;refine ⟨?_,IsNow.of hw (h2.step 1) ((Pz h2.1.ok 1).trans (by rw [h3];rfl))⟩;rw [he,q1]
 congr 2
 cases hm:m key with
 | none =>
   rw [q3 (by simp only [hm];rfl)];rfl
 | some v =>
   obtain ⟨y,hy⟩:=q4 (by simp only [hm];rfl)
   have:=q2 y hy
   simp only [hm,Option.map_some,Option.some.injEq] at this;rw [hy];simp only [F2,<- this];rfl
theorem y3u(hsd:seed<4294967296)(h:Is w p S seed m n)(hn:n.n+1<=1000000)(key:ByteArray)(hk:key.size<=281474976710656)(v:Int) :
 Calls Tryz.prog 167 #[.pointer (some ⟨p,0,none⟩),.string key,.int .i64 v] w fun e w'=>e=.returned (.bool (!(m key).isSome))/\IsNow S w p seed (z1d m key v) (n.set (m key).isSome) w':=by
 obtain ⟨D,h1,h2,h3⟩:=h;have hn':D.n+1<=1000000:=by rw [<- h3] at hn;exact hn
 refine (Ia hsd h1 h2.1.ok hn' key hk v).mono fun e w' ⟨he,hw⟩=>?_;obtain ⟨q1,_⟩:=(h2.step 1).hit key;obtain ⟨g1,_⟩:=h2.set key (.int .i64 v) ⟨v,rfl⟩;have g2:=z2y h2.1.ok (Zq seed key.data.toList) key (.int .i64 v);rw [<- z4z] at g1;simp only [Option.isSome_map] at q1;exact ⟨by rw [he,q1],IsNow.of hw g1 (by rw [g2,h3,q1])⟩
theorem y0v(hsd:seed<4294967296)(h:Is w p S seed m n)(hn:n.n<=1000000)(key:ByteArray)(hk:key.size<=281474976710656) :
 Calls Tryz.prog 299 #[.pointer (some ⟨p,0,none⟩),.string key] w fun e w'=>e=.returned (.bool (m key).isSome)/\IsNow S w p seed (z5w m key) (n.del (m key).isSome) w'/\((m key).isSome=true->0<n.n):=by
 obtain ⟨D,h1,h2,h3⟩:=h;have hn':D.n<=1000000:=by rw [<- h3] at hn;exact hn
 refine (z3v hsd h1 h2.1.ok hn' key hk).mono fun e w' ⟨he,hw⟩=>?_;obtain ⟨q1,_⟩:=(h2.step 1).hit key;obtain ⟨g1,_,g3⟩:=h2.del key;have g2:=z2x h2.1.ok (Zq seed key.data.toList) key;rw [<- z5a] at g1;simp only [Option.isSome_map] at q1 g3;exact ⟨by rw [he,q1],IsNow.of hw g1 (by rw [g2,h3,q1]),fun e=>by rw [<- h3];exact g3 e⟩
end
end Go.Proofs.YtcklcmafohlflaaGreatDoor.Dc
namespace Go.Proofs.YtcklcmafohlflaaGreatDoor.Dc.Dt
open Zc
open Go.RowKit Go.Shelf
attribute [local go_sem] Oper.semAt_some
def tyP:Ty:=⟨131,195,194,fun v=>∃ a,v=.pointer a⟩
theorem y5s{v:Value}(h:tyP.ok v):v.oneCell'=true:=by obtain ⟨n,rfl⟩:=h;rfl
theorem Gz:(Tryz.prog.info? 194).map (fun i=>(i.zero,i.size,i.bytes))=some (some (.agg #[.int .u32 0,.string ⟨#[]⟩,.pointer none]),3,32):=by kernel_rfl
theorem Bt{W W6:World}{vj:Value}{rj:List Nd}(hown:RowAt tyP W vj rj)(hb:Bl W W6)(x:Nd)(hx:tyP.ok x.v)(hl:rj.length<=1000000) :
 ∃ gg cap' W7,(Builtin.append_ #[195,195] 195 #[vj,.slice (some ⟨W6.heap.size,0,none⟩) 1 1]).run Tryz.prog (W6.alloc (.cells x.cells.toArray 194))=.ok (.slice (some ⟨gg,0,none⟩) (rj.length+1) cap') W7 /\
  RowAt tyP W7 (.slice (some ⟨gg,0,none⟩) (rj.length+1) cap') (rj++[x])/\(W6.alloc (.cells x.cells.toArray 194)).grownBy W7 vj.ownBlock/\(vj.ownBlock=some gg\/gg=W6.heap.size+1):=by
 obtain ⟨i0,hi0,hz0,hz1,hz2⟩:=info_parts Gz;have hk:RowAt tyP (W6.alloc (.cells x.cells.toArray 194)) vj rj:=(hown.far (S:=fun _=>False) (Far.of_below hb) fun _ _ h=>h).far (S:=fun _=>False) (Far.of_below ((Below.refl _ _).alloc (lAd _) _)) fun _ _ h=>h
 obtain ⟨v',w',hrun,r1,r2,r3,r4⟩:=run_append_own_at (P:=Tryz.prog) (W6.alloc (.cells x.cells.toArray 194)) 0 195 195 194 i0 _ 3 32 Tryz.underlying195 hi0 hz0 hz1 hz2 rfl (by decide) vj _ _ hk ⟨W6.heap.size,0,none⟩ 1 1 x.cells rfl
  (World.news_of_block (cs:=x.cells.toArray) (t:=194) (fr:=(0,0)) (heap_alloc_new _ _)) (fun u hu=>Gv (r:=[x]) (fun y hy=>by simp at hy;subst hy;exact y5s hx) u (by simpa [Xs] using hu)) (by unfold maxLen;omega) (by omega) (Nat.zero_le _)
 have r1':RowAt tyP w' v' (rj++[x]):=by
  unfold RowAt;rw [Vo,lAh]
  simpa [Xs,tyP] using r1
 rcases r1.2 with ⟨rfl,h0⟩|⟨gg,cap',cur,rfl,_⟩
 ·omega
 ·refine ⟨gg,cap',w',hrun,r1',r2,?_⟩;rcases r4 with h|h
  ·exact .inl h.symm
  ·right;simp [Value.ownBlock] at h;omega
def PutI(w:World)(g:Nat)(vs:List Value)(rows:List (List Nd))(xs:List Nd)(k:Nat)(wr:World):Prop :=
 ∃ vs',TabAt tyP wr g vs' (Xe rows (xs.take k))/\Sep vs'/\(∀ u∈vs',∀ k,u.ownBlock=some k->(∃ u0∈vs,u0.ownBlock=some k)\/w.heap.size<=k)/\Far (U4 g vs) w wr
theorem PutI.step{w:World}{g:Nat}{vs:List Value}{rows:List (List Nd)}{xs:List Nd}{k:Nat}{wr w1 W6 W7:World}{vs':List Value}
 (hT:TabAt tyP wr g vs' (Xe rows (xs.take k))) (hS:Sep vs') (hI:∀ u∈vs',∀ k,u.ownBlock=some k->(∃ u0∈vs,u0.ownBlock=some k)\/w.heap.size<=k) (hF:Far (U4 g vs) w wr)
 (hb1:Bl wr w1) (hb6:Bl w1 W6) {x:Nd} (hx:xs[k]?=some x) {vj:Value} (hvj:vs'[x.sum % rows.length]?=some vj) {o:Obj} {gg cap':Nat}
 (r1:RowAt tyP W7 (.slice (some ⟨gg,0,none⟩) (((Xe rows (xs.take k)).getD (x.sum % rows.length) []).length+1) cap') ((Xe rows (xs.take k)).getD (x.sum % rows.length) []++[x]))
 (r2:(W6.alloc o).grownBy W7 vj.ownBlock) (r3:vj.ownBlock=some gg\/gg=W6.heap.size+1) :
 PutI w g vs rows xs (k+1) (W7.setCell ⟨g,x.sum % rows.length,none⟩ (.slice (some ⟨gg,0,none⟩) (((Xe rows (xs.take k)).getD (x.sum % rows.length) []).length+1) cap')):=by
 obtain ⟨rj,hrj,hRj⟩:=hT.rows hvj;have hpl:=Yp (xs.take k) rows;have hsz1:=hb1.size;have hsz6:=hb6.size;have hsz7:=r2.size;have hval:W6.heap.size+1<=W7.heap.size:=by simpa using hsz7
 have hin:∀ {b},vj.ownBlock=some b->U4 g vs' b:=fun h=>.inr ⟨vj,lAc hvj,h⟩
 -- all that the append may change
 have f7:Far (fun b=>vj.ownBlock=some b) wr W7:=by
  refine Far.trans (S1:=fun b=>vj.ownBlock=some b) (((Far.of_below hb1).then_below hb6).then_below (((Below.refl _ _).alloc (lAd _) o))) (Far.of_grown r2 fun k e=>.inl e) (fun b hb=>.inl hb)
 have hjl:x.sum % rows.length<vs'.length:=(lAb.1 hvj).1
 have hne:∀ b,vj.ownBlock=some b->b≠g:=fun b hb e=>by
  subst e;obtain ⟨c,hc⟩:=hRj.blk hb;exact absurd (hc.ty hT.blk) (by decide)
 have hbg:Blk W7 g 195 vs'.toArray:=f7.blk hT.blk (fun h=>hne g h rfl)
 have hgg:gg≠g:=by
  rcases r3 with h|h
  ·exact hne gg h
  ·have:=hT.blk.lt;omega
 refine ⟨vs'.set (x.sum % rows.length) (.slice (some ⟨gg,0,none⟩) (((Xe rows (xs.take k)).getD (x.sum % rows.length) []).length+1) cap'),⟨?_,?_,?_⟩,?_,?_,?_⟩
 ·have:=hbg.set (x.sum % rows.length) (.slice (some ⟨gg,0,none⟩) (((Xe rows (xs.take k)).getD (x.sum % rows.length) []).length+1) cap')
  rwa [List.setIfInBounds_toArray] at this
 ·rw [List.length_set,I8 rows xs k x hx,Yz,hT.len]
 ·intro i v r hv hr;rw [I8 rows xs k x hx] at hr;unfold Vs at hr;rw [hpl] at hr
  by_cases e:i=x.sum % rows.length
  ·subst e;rw [List.getElem?_set_self hjl] at hv;rw [List.getElem?_set_self (by rw [<- hT.len];exact hjl)] at hr
   cases hv;cases hr
   refine r1.far (S:=fun b=>b=g) ((Far.refl _ _).set _ _ (.inl rfl)) ?_;intro b hb e;simp [Value.ownBlock] at hb;omega
  ·rw [List.getElem?_set_ne (fun h=>e h.symm)] at hv hr;have h0:=hT.row i v r hv hr;have h7:RowAt tyP W7 v r:=h0.far f7 fun b hb h=>e (hS i _ v vj b hv hvj hb h);refine h7.far (S:=fun b=>b=g) ((Far.refl _ _).set _ _ (.inl rfl)) ?_;intro b hb e2;subst e2;obtain ⟨c,hc⟩:=h0.blk hb;exact absurd (hc.ty hT.blk) (by decide)
 ·refine hS.set hvj fun b hb=>?_;simp [Value.ownBlock] at hb;subst hb;rcases r3 with h|h
  ·exact .inl h
  ·right
   intro u hu hu2;obtain ⟨r,hr⟩:=hT.mem hu
   have:=hr.lt hu2
   omega
 ·intro u hu b hb;rcases List.mem_or_eq_of_mem_set hu with h|rfl
  ·exact hI u h b hb
  ·simp [Value.ownBlock] at hb;subst hb;rcases r3 with h|h
   ·exact hI vj (lAc hvj) _ h
   ·right;have:=hF.size;omega
 ·refine Far.set (hF.trans f7 fun b hb=>?_) _ _ (.inl (.inl rfl));rcases hI vj (lAc hvj) b hb with ⟨u0,h1,h2⟩|h
  ·exact .inl (.inr ⟨u0,h1,h2⟩)
  ·exact .inr h
theorem Mt(g:Nat)(vs:List Value)(rows:List (List Nd))(v:Value)(xs:List Nd)(w:World)(hT:TabAt tyP w g vs rows)(hS:Sep vs)(hz:isS (rows.length:Int)=true)
 (hr:RowAt tyP w v xs) (hv:∀ u∈vs,∀ k,u.ownBlock=some k->v.ownBlock≠some k) (hf:∀ x∈xs,x.fine tyP) (hn:rows.flatten.length+xs.length<=1000000) :
 Calls Tryz.prog 137 #[.slice (some ⟨g,0,none⟩) rows.length rows.length,v] w fun e w'=>e=.returned (.tuple #[])/\PutI w g vs rows xs xs.length w':=by
 have hvg:∀ k,v.ownBlock=some k->¬ U4 g vs k:=fun k hk h=>by
  rcases h with rfl|⟨u,hu,hu2⟩
  ·obtain ⟨c,hc⟩:=hr.blk hk
   have:=hc.ty hT.blk
   exact absurd this (by decide)
  ·exact hv u hu k hu2 hk
 have hn1:=Zp hz;have H0:PutI w g vs rows xs 0 w:=⟨vs,hT,hS,fun u hu k hk=>.inl ⟨u,hu,hk⟩,Far.refl _ _⟩;have hfar:∀ k wr,PutI w g vs rows xs k wr->RowAt tyP wr v xs:=fun k wr ⟨_,_,_,_,f⟩=>hr.far f hvg;have HFAR:=jY hfar;clear hfar;obtain ⟨A,cap,rfl,hcap,hmax,hat⟩:=hr.form;clear hat;have hn2:(xs.length:Int)<=1000000:=by omega
 have hn3:(4:Int)<=rows.length:=by omega
 have HI:=fun (s:Nat) hs w=>jY (O1 s hs rows.length w);unfold Ip at HI;simp only [hz,if_true] at HI;have HF:=jY hf;clear hf hz hS hT hr hv hvg
 go_enter Tryz.func137,Tryz.ntmps137
 go_wp2
 go_loopw [10] (fun i wr=>∃ (k:Nat),i=.int .i64 k/\k<=xs.length/\PutI w g vs rows xs k wr) (fun i _=>xs.length-(intOf i).toNat)
 case atStart=>exact ⟨0,rfl,by omega,H0⟩
 case round =>
  obtain ⟨k,rfl,hk,hP⟩:=hrel
  by_cases hlt:k<xs.length
  ·have hx:xs[k]?=some xs[k]:=lAa hlt;obtain ⟨A',cap',he,_,_,hat⟩:=(HFAR.out _ _ hP).form;obtain ⟨gv,hA,hob,c0,c1,c2,fz⟩:=hat k _ hx
   cases he
   subst hA;generalize xs[k]=x at *;obtain ⟨hx1,hx2⟩:=HF.out x (lAc hx);obtain ⟨sum,key,vv⟩:=x;obtain ⟨nv,hnv⟩:=hx2;simp only at hnv hx1 c0 c1 c2;subst hnv;obtain ⟨vs',hT,hS,hI,hF⟩:=hP;have hpl:=Yp (xs.take k) rows;have hj:sum % rows.length<rows.length:=Nat.mod_lt _ (by omega);have hvl:vs'.length=rows.length:=hT.len.trans hpl;obtain ⟨vj,hvj⟩:∃ vj,vs'[sum % rows.length]?=some vj:=⟨_,lAa (by omega)⟩;obtain ⟨rj,hrj,hRj⟩:=hT.rows hvj
   have hrl:rj.length<=1000000:=by
    have h1:=Gg _ rj (lAc hrj);have h2:=Gc (xs.take k) rows (by omega);have h3:(xs.take k).length<=xs.length:=by rw [List.length_take];omega
    omega
   have hgd:(Xe rows (xs.take k)).getD (sum % rows.length) []=rj:=by rw [List.getD_eq_getElem?_getD,hrj];rfl
   have hcg:∀ W,Bl wr W->W.cell? ⟨g,sum % rows.length,none⟩=some vj/\W.frozen? ⟨g,sum % rows.length,none⟩=false:=fun W hW=>by
    have hB:=hT.blk.later hW;exact ⟨by rw [hB.cell];simpa using hvj,hB.free _⟩
   have hgl:=hT.blk.lt
   have hog:vj.ownBlock≠some g:=fun h=>by
    obtain ⟨c,hc⟩:=hRj.blk h;exact absurd (hc.ty hT.blk) (by decide)
   have HI2:=fun w=>HI sum hx1 w;have hje:(sum:Int) % (rows.length:Int)=((sum % rows.length:Nat):Int):=by omega
   simp only [hje] at HI2;have HSTEP:=fun w1 W6 W7 (b1:Bl wr w1) (b6:Bl w1 W6) o gg cap' r1 r2 r3=>jY (PutI.step (w:=w) (vs:=vs) (rows:=rows) (k:=k) (W7:=W7) hT hS hI hF b1 b6 hx hvj (o:=o) (gg:=gg) (cap':=cap') r1 r2 r3);simp only [hgd] at HSTEP;have hja:=jY hj;generalize sum % rows.length=j at *;have HAPP:=fun W6 (b:Bl wr W6)=>jY (Bt hRj b ⟨sum,key,.pointer nv⟩ ⟨nv,rfl⟩ hrl);have hj2:(j:Int)<rows.length:=by omega
   clear hx fz hje hgd hrj hRj hT hS hI hF hvl hpl hvj hj HI HF HFAR H0;go_wp2_with fail;refine (HI2 _).out.mono ?_;rintro e w1 ⟨rfl,hb1⟩;have hbw:Bl wr w1:=((Below.refl _ _).alloc (lAd _) _).trans (hb1.mono (by simp));have k5:=(Blk.new wr 194 #[Value.int IntKind.u32 ↑sum,Value.string key,Value.pointer nv]).later (by simpa using hb1);obtain ⟨e0,f0⟩:=hcg _ hbw;obtain ⟨gg,cap7,W7,hrun,r1,r2,r3⟩:=(HAPP _ (hbw.drew)).out;obtain ⟨e6,f6⟩:=hcg _ (hbw.alloc hbw.size (Obj.cells #[Value.int IntKind.u32 ↑sum,Value.string key,Value.pointer nv] 194));have e7:W7.cell? ⟨g,j,none⟩=some vj:=(r2.cell_far ⟨g,j,none⟩ (by have:=hbw.size;simp;omega) (fun h=>hog h.symm)).trans e6;have f7:W7.frozen? ⟨g,j,none⟩=false:=(r2.frozen_far ⟨g,j,none⟩ (by have:=hbw.size;simp;omega) (fun h=>hog h.symm)).trans f6;have d0:=k5.cell 0;have d1:=k5.cell 1;have d2:=k5.cell 2;have z1:=hbw.size;have H1:=jY r1;have H2:=jY r2;have H3:=jY r3;have HB:=jY hbw;clear r1 r2 r3 hbw hb1 k5;unfold Nd.cells at hrun H2;go_wp2
   go_region_law (refine Vg rfl _ _ 195 195 (by rfl) (by rfl) (by rfl) hrun ?_)
   all_goals (
    go_wp2;refine ⟨⟨k+1,by go_num,hlt,?_⟩,by simp [intOf];omega⟩
    exact (HSTEP w1 w1.drew W7 HB.out ((Below.refl _ _).drew) _ gg cap7 H1.out H2.out H3.out).out)
  ·obtain rfl:k=xs.length:=by omega
   go_wp2;go_returns;exact ⟨rfl,hP⟩
variable {S:Nat->Prop} {p seed:Nat} {D:Dc} {w:World}
theorem Vb(h:Rep tyP w p S seed D):Calls Tryz.prog 148 #[.pointer (some ⟨p,0,none⟩)] w fun e w'=>e=.returned (.bool D.moving)/\w'=w:=by
 obtain ⟨g0,g1,A1,va,vb,hm,hf,hc⟩:=h;obtain ⟨c0,c1,c2,c3,c4,f0,f1,f3,f4⟩:=Zy hm;unfold Dc.moving
 go_enter Tryz.func148,Tryz.ntmps148
 go_wp2;go_ret;exact ⟨by simp,rfl⟩
theorem I2(h:Rep tyP w p S seed D):Calls Tryz.prog 40 #[.pointer (some ⟨p,0,none⟩)] w fun e w'=>e=.returned (.int .i64 D.n)/\w'=w:=by
 obtain ⟨g0,g1,A1,va,vb,hm,hf,hc⟩:=h;obtain ⟨c0,c1,c2,c3,c4,f0,f1,f3,f4⟩:=Zy hm
 go_enter Tryz.func40,Tryz.ntmps40
 go_wp2;go_ret;exact ⟨rfl,rfl⟩
theorem z9o(h:Rep tyP w p S seed D):Calls Tryz.prog 78 #[.pointer (some ⟨p,0,none⟩)] w fun e w'=>e=.returned (.tuple #[.int .i64 D.a.length,.int .i64 D.b.length,.int .i64 D.place])/\Bl w w':=by
 obtain ⟨g0,g1,A1,va,vb,hm,hf,hc⟩:=h;obtain ⟨c0,c1,c2,c3,c4,f0,f1,f3,f4⟩:=Zy hm
 go_enter Tryz.func78,Tryz.ntmps78
 go_wp2
 go_quiet (fail)
 go_wp2;go_returns;exact ⟨rfl,by first|exact (Below.refl _ _).drew|exact ⟨rfl,rfl,rfl,lAd _,fun _ _=>rfl⟩⟩
theorem G9{g0 g1:Nat}{A1:Option Addr}{va vb:List Value}(h:Mem tyP w p g0 g1 A1 va vb seed D)(hf:Foot S p g0 g1 va vb D)(hc:∀ k,S k->CellB tyP w k) :
 Calls Tryz.prog 136 #[.pointer (some ⟨p,0,none⟩)] w fun e w'=>e=.returned (bif D.moving then .slice A1 D.b.length D.b.length else .slice (some ⟨g0,0,none⟩) D.a.length D.a.length)/\w'=w:=by
 have hm:=Vb (w:=w) ⟨g0,g1,A1,va,vb,h,hf,hc⟩;obtain ⟨c0,c1,c2,c3,c4,f0,f1,f3,f4⟩:=Zy h
 cases hmv:D.moving with
 | false =>
   rw [hmv] at hm;have HM:=jY hm;clear hm hmv
   go_enter Tryz.func136,Tryz.ntmps136
   go_wp2_with fail;refine HM.out.mono ?_;rintro e w' ⟨rfl,rfl⟩;go_wp2;go_ret;exact ⟨rfl,rfl⟩
 | true =>
   rw [hmv] at hm;have HM:=jY hm;clear hm hmv
   go_enter Tryz.func136,Tryz.ntmps136
   go_wp2_with fail;refine HM.out.mono ?_;rintro e w' ⟨rfl,rfl⟩;go_wp2;go_ret;exact ⟨rfl,rfl⟩
theorem Vw(hsd:seed<4294967296)(h:Rep tyP w p S seed D)(key:ByteArray)(hk:key.size<=281474976710656) :
 Calls Tryz.prog 138 #[.pointer (some ⟨p,0,none⟩),.string key] w fun e w'=>e=.returned (.agg #[.int .u32 (Zq seed key.data.toList),.string key])/\Bl w w':=by
 obtain ⟨g0,g1,A1,va,vb,hm,hf,hc⟩:=h;obtain ⟨c0,c1,c2,c3,c4,f0,f1,f3,f4⟩:=Zy hm;have hpl:=hm.dict.lt;have HS:=fun w=>jY (Bp seed hsd key hk w);generalize Zq seed key.data.toList=sm at *;clear hm hf hc
 go_enter Tryz.func138,Tryz.ntmps138
 go_wp2_with fail;refine (HS _).out.mono ?_;rintro e w1 ⟨rfl,hb1⟩;have hB:=(Blk.new w 192 #[Value.int IntKind.u32 0,Value.string { data:=#[] }]).later hb1;have e0:=hB.cell 0;have e1:=hB.cell 1;have z0:=hB.free 0;have z1:=hB.free 1;have HH:=jY hB;have HL:=jY hb1;clear hB hb1;go_wp2;have g1:=(HH.out.set 0 (.int .u32 sm)).set 1 (.string key);have q0:=g1.cell 0;have q1:=g1.cell 1;refine bodyPost_ret (v:=.agg #[.int .u32 sm,.string key]) ?_ rfl ⟨rfl,?_⟩
 ·simp [results,Tryz.results138,go_sem,q0,q1]
 ·exact (((((Below.refl _ _).alloc (lAd _) _)).trans (HL.out.mono (by simp))).setCell (p:=⟨w.heap.size,0,none⟩) (lAd _) _).setCell (p:=⟨w.heap.size,1,none⟩) (lAd _) _
theorem F0:(Tryz.prog.info? 195).map (fun i=>(i.zero,i.size,i.bytes))=some (some (.slice none 0 0),1,24):=by kernel_rfl
theorem Om(h:Rep tyP w p S seed D)(m:Nat)(hb:D.b=[]) :
 Calls Tryz.prog 162 #[.pointer (some ⟨p,0,none⟩),.int .i64 m] w fun e w'=>e=.returned (.tuple #[])/\Went tyP S w p seed (D.begin m) w':=by
 obtain ⟨g0,g1,A1,va,vb,hm,hf,hc⟩:=h;obtain ⟨c0,c1,c2,c3,c4,f0,f1,f3,f4⟩:=Zy hm;have HS:=fun w=>jY (Jf m w);have hpl:=hm.dict.lt;have HM:=jY hm;have hs4:=Zp (Pq m);clear hm;obtain ⟨i0,hi0,hz0,hz1,hz2⟩:=info_parts F0;have hmk:=fun W=>run_make (P:=Tryz.prog) W 128 195 i0 _ Tryz.underlying128 hi0 hz0 .i64 .i64 (Zu m) (Zu m) (by omega) (Int.le_refl _) (by rw [hz2];omega) (by omega);rw [hz1] at hmk;simp only [Int.toNat_natCast,Nat.mul_one] at hmk;have HCP:∀ W,Bl w W->Hid (W.cell? ⟨p,1,none⟩=some (.slice A1 D.b.length D.b.length)/\W.frozen? ⟨p,1,none⟩=false):=fun W hW=>jY ⟨(HM.out.dict.later hW).cell 1,(HM.out.dict.later hW).free 1⟩
 have HEND:∀ w1,Bl w w1->Hid (Went tyP S w p seed (D.begin m) ((w1.alloc (Obj.cells (madeCells #[Value.slice none 0 0] (Zu m)) 195)).setCell ⟨p,1,none⟩ (Value.slice (some ⟨w1.heap.size,0,none⟩) (Zu m) (Zu m)))):=fun w1 hb1=>jY (by
  have hm1:=HM.out.later hb1;have hz1:=hb1.size
  have hvb:vb=[]:=by
   rcases HM.out.tb with ⟨_,h,_⟩|⟨h,_⟩
   ·exact h
   ·exact absurd hb h
  subst hvb;have hs:=hm1.sep;rw [List.append_nil] at hs;have hd:=((hm1.dict.alloc (Obj.cells (madeCells #[Value.slice none 0 0] (Zu m)) 195)).set 1 (Value.slice (some ⟨w1.heap.size,0,none⟩) (Zu m) (Zu m)))
  have hfr:Far S w ((w1.alloc (Obj.cells (madeCells #[Value.slice none 0 0] (Zu m)) 195)).setCell ⟨p,1,none⟩ (Value.slice (some ⟨w1.heap.size,0,none⟩) (Zu m) (Zu m))) :=
   ((Far.of_below hb1).then_below ((Below.refl _ _).alloc (lAd _) _)).set _ _ (.inl hf.p)
  have hnew:Blk ((w1.alloc (Obj.cells (madeCells #[Value.slice none 0 0] (Zu m)) 195)).setCell ⟨p,1,none⟩ (Value.slice (some ⟨w1.heap.size,0,none⟩) (Zu m) (Zu m))) w1.heap.size 195 (madeCells #[Value.slice none 0 0] (Zu m)) :=
   (Blk.new w1 195 _).setOther 1 _ (by omega)
  have hmc:madeCells #[Value.slice none 0 0] (Zu m)=(List.replicate (Zu m) (Value.slice none 0 0)).toArray:=by
   rw [<- toList_madeCells_one]
  refine Went.mk' (g0:=g0) (g1:=w1.heap.size) (A1:=some ⟨w1.heap.size,0,none⟩) (va:=va) (vb:=List.replicate (Zu m) (.slice none 0 0)) ⟨?_,?_,.inr ⟨?_,rfl,?_,⟨?_,?_,?_⟩⟩,?_⟩ hfr (.inl hf.p) (.inl hf.g0) (fun _=>.inr (by omega)) ?_
  ·simpa [Dc.begin] using hd
  ·refine (hm1.ta.later (W':=(w1.alloc (Obj.cells (madeCells #[Value.slice none 0 0] (Zu m)) 195))) ((Below.refl _ _).alloc (lAd _) _)).far (S:=fun k=>k=p) ((Far.refl _ _).set _ _ (.inl rfl)) ?_;rintro k (rfl|⟨v,hv,hk⟩) rfl
   ·exact absurd (hm1.ta.blk.ty hm1.dict) (by decide)
   ·obtain ⟨r,hr⟩:=hm1.ta.mem hv;obtain ⟨c,hc⟩:=hr.blk hk;exact absurd (hc.ty hm1.dict) (by decide)
  ·simp [Dc.begin];omega
  ·have:=hm1.ta.blk.lt;omega
  ·rw [<- hmc];exact hnew
  ·simp [Dc.begin]
  ·intro i v r hv hr;obtain ⟨hi,rfl⟩:=lAb.1 hv;obtain ⟨hi2,rfl⟩:=lAb.1 hr;simp only [List.getElem_replicate,Dc.begin];exact RowAt.nil _ _
  ·refine hs.join (Sep.none fun v hv=>?_) (fun v hv u hu k hk=>?_)
   ·rw [List.eq_of_mem_replicate hv];rfl
   ·rw [List.eq_of_mem_replicate hu];simp [Value.ownBlock]
  ·intro v hv k hk;rcases List.mem_append.1 hv with h|h
   ·exact .inl (hf.row v (List.mem_append_left _ h) k hk)
   ·rw [List.eq_of_mem_replicate h] at hk;simp [Value.ownBlock] at hk)
 generalize Zu m=s at *;clear hf hc hi0 hz0 hz1 hz2
 go_enter Tryz.func162,Tryz.ntmps162
 go_wp2
 go_region_law ((go_simp;go_at_call 179;refine (HS _).out.mono ?_;rintro e w1 ⟨rfl,hb1⟩;obtain ⟨q1,z1⟩:=(HCP _ ((Dv hb1).alloc hb1.size (Obj.cells (madeCells #[Value.slice none 0 0] s) 195))).out))
 all_goals go_wp2
 all_goals go_returns
 all_goals exact ⟨rfl,(HEND w1 (Dv hb1)).out⟩
variable {S:Nat->Prop} {p seed:Nat} {D:Dc} {w:World}
theorem Ad(h:Rep tyP w p S seed D)(hn:D.n<=1000000):Calls Tryz.prog 135 #[.pointer (some ⟨p,0,none⟩)] w fun e w'=>e=.returned (.tuple #[])/\Went tyP S w p seed D.grown w':=by
 have hmv:=Vb h;have hst:=jY (Went.start h);have H:=jY h;obtain ⟨g0,g1,A1,va,vb,hm,hf,hc⟩:=h;obtain ⟨c0,c1,c2,c3,c4,f0,f1,f3,f4⟩:=Zy hm;clear hm hf hc
 cases hb:D.moving with
 | true =>
   have hD:D.grown=D:=by unfold Dc.grown;rw [if_neg];intro h;rw [(Yt D).2 h.1] at hb;cases hb
   rw [hD];rw [hb] at hmv;have HM:=jY hmv;clear hmv hb hD
   go_enter Tryz.func135,Tryz.ntmps135
   go_wp2_with fail;refine HM.out.mono ?_;rintro e w1 ⟨rfl,rfl⟩;go_wp2;go_returns;exact ⟨rfl,hst.out⟩
 | false =>
   have hbn:=(Yt D).1 hb;rw [hb] at hmv;have HM:=jY hmv
   by_cases hc:D.a.length<=D.n/\D.a.length<65536
   ·have hD:D.grown=D.begin (2*D.n):=by unfold Dc.grown;rw [if_pos ⟨hbn,hc.1,hc.2⟩]
    have HB:=jY (Om H.out (2*D.n) hbn);rw [hD];obtain ⟨h1,h2⟩:=hc;have h1':(D.a.length:Int)<=D.n:=by omega
    have h2':(D.a.length:Int)<65536:=by omega
    have h3:(D.n:Int)<=1000000:=by omega
    have hcast:((2*D.n:Nat):Int)=2*(D.n:Int):=by omega
    rw [hcast] at HB;clear hmv hb hD hbn hcast hst
    go_enter Tryz.func135,Tryz.ntmps135
    go_wp2_with fail;refine HM.out.mono ?_;rintro e w1 ⟨rfl,rfl⟩;go_wp2_with fail;refine HB.out.mono ?_;rintro e w1 ⟨rfl,hw⟩;have HW:=jY hw;clear hw;go_wp2;go_returns;exact ⟨rfl,HW.out⟩
   ·have hD:D.grown=D:=by unfold Dc.grown;rw [if_neg];intro h;exact hc ⟨h.2.1,h.2.2⟩
    rw [hD];clear hmv hb hD hbn
    by_cases h1:D.n<D.a.length
    ·have h1':(D.n:Int)<D.a.length:=by omega
     go_enter Tryz.func135,Tryz.ntmps135
     go_wp2_with fail;refine HM.out.mono ?_;rintro e w1 ⟨rfl,rfl⟩;go_wp2;go_returns;exact ⟨rfl,hst.out⟩
    ·have h1':(D.a.length:Int)<=D.n:=by omega
     have h2':decide ((D.a.length:Int)<65536)=false:=by rw [decide_eq_false_iff_not];omega
     clear hc h1
     go_enter Tryz.func135,Tryz.ntmps135
     go_wp2_with fail;refine HM.out.mono ?_;rintro e w1 ⟨rfl,rfl⟩;go_wp2;go_returns;exact ⟨rfl,hst.out⟩
theorem Gj(h:Rep tyP w p S seed D)(hn:D.n<=1000000):Calls Tryz.prog 132 #[.pointer (some ⟨p,0,none⟩)] w fun e w'=>e=.returned (.tuple #[])/\Went tyP S w p seed D.shrunk w':=by
 have hmv:=Vb h;have hst:=jY (Went.start h);have H:=jY h;obtain ⟨g0,g1,A1,va,vb,hm,hf,hc⟩:=h;obtain ⟨c0,c1,c2,c3,c4,f0,f1,f3,f4⟩:=Zy hm;clear hm hf hc;have h3:(D.n:Int)<=1000000:=by omega
 cases hb:D.moving with
 | true =>
   have hD:D.shrunk=D:=by unfold Dc.shrunk;rw [if_neg];intro h;rw [(Yt D).2 h.1] at hb;cases hb
   rw [hD];rw [hb] at hmv;have HM:=jY hmv;clear hmv hb hD
   go_enter Tryz.func132,Tryz.ntmps132
   go_wp2_with fail;refine HM.out.mono ?_;rintro e w1 ⟨rfl,rfl⟩;go_wp2;go_returns;exact ⟨rfl,hst.out⟩
 | false =>
   have hbn:=(Yt D).1 hb;rw [hb] at hmv;have HM:=jY hmv
   by_cases hc:4<D.a.length/\8*D.n<D.a.length
   ·have hD:D.shrunk=D.begin D.n:=by unfold Dc.shrunk;rw [if_pos ⟨hbn,hc.1,hc.2⟩]
    have HB:=jY (Om H.out D.n hbn);rw [hD];obtain ⟨h1,h2⟩:=hc;have h1':4<(D.a.length:Int):=by omega
    have h2':8*(D.n:Int)<D.a.length:=by omega
    clear hmv hb hD hbn hst
    go_enter Tryz.func132,Tryz.ntmps132
    go_wp2_with fail;refine HM.out.mono ?_;rintro e w1 ⟨rfl,rfl⟩;go_wp2_with fail;refine HB.out.mono ?_;rintro e w1 ⟨rfl,hw⟩;have HW:=jY hw;clear hw;go_wp2;go_returns;exact ⟨rfl,HW.out⟩
   ·have hD:D.shrunk=D:=by unfold Dc.shrunk;rw [if_neg];intro h;exact hc ⟨h.2.1,h.2.2⟩
    rw [hD];clear hmv hb hD hbn
    by_cases h1:D.a.length<=4
    ·have h1':(D.a.length:Int)<=4:=by omega
     go_enter Tryz.func132,Tryz.ntmps132
     go_wp2_with fail;refine HM.out.mono ?_;rintro e w1 ⟨rfl,rfl⟩;go_wp2;go_returns;exact ⟨rfl,hst.out⟩
    ·have h1':4<(D.a.length:Int):=by omega
     have h2':(D.a.length:Int)<=8*(D.n:Int):=by omega
     clear hc
     go_enter Tryz.func132,Tryz.ntmps132
     go_wp2_with fail;refine HM.out.mono ?_;rintro e w1 ⟨rfl,rfl⟩;go_wp2;go_returns;exact ⟨rfl,hst.out⟩
variable {S:Nat->Prop} {p seed:Nat} {D:Dc} {w:World}
theorem Km:tyP.Apart:=⟨by decide,by decide,by decide⟩
theorem Ar{g0 g1:Nat}{A1:Option Addr}{va vb:List Value}(hm:Mem tyP w p g0 g1 A1 va vb seed D)(hb:D.b≠[]){w1:World}(hP:PutI w g1 vb D.b (D.a.getD D.place []) (D.a.getD D.place []).length w1) :
 ∃ vb',Mem tyP w1 p g0 g1 A1 va vb' seed { D with b:=Xe D.b (D.a.getD D.place []) }/\(∀ u∈vb',∀ k,u.ownBlock=some k->(∃ u0∈vb,u0.ownBlock=some k)\/w.heap.size<=k)/\Far (U4 g1 vb) w w1:=by
 obtain ⟨vb',hT,hS,hI,hF⟩:=hP;rw [List.take_length] at hT;rcases hm.tb with ⟨h,_⟩|⟨_,hA,hg,htb⟩
 ·exact absurd h hb
 have hsa:=fun v (hv:v∈va) u (hu:u∈vb) k hk=>Sep.apart hm.sep hv hu (k:=k) hk;have hta:=hm.ta.beside Km htb (fun e=>hg e.symm) hsa hF;refine ⟨vb',⟨?_,hta,.inr ⟨?_,hA,hg,hT⟩,hm.sep.left.join hS fun v hv u hu k hk h2=>?_⟩,hI,hF⟩
 ·have:=hF.blk hm.dict (fun h=>by
   rcases h with h|⟨u,hu,h⟩
   ·subst h;exact absurd (hm.dict.ty htb.blk) (by decide)
   ·obtain ⟨r,hr⟩:=htb.mem hu;obtain ⟨c,hc⟩:=hr.blk h
    exact absurd (hm.dict.ty hc) (by decide))
  simpa [Yp] using this
 ·intro e
  have:=congrArg List.length e
  rw [Yp] at this;exact hb (List.eq_nil_of_length_eq_zero (by simpa using this))
 ·rcases hI u hu k h2 with ⟨u0,h3,h4⟩|h3
  ·exact Sep.apart hm.sep hv h3 hk h4
  ·obtain ⟨r,hr⟩:=hm.ta.mem hv
   have:=hr.lt hk
   omega
theorem z5b{g0 g1:Nat}{A1:Option Addr}{va vb vb':List Value}(hf:Foot S p g0 g1 va vb D)(hb:D.b≠[]){w1:World}(hm1:Mem tyP w1 p g0 g1 A1 va vb' seed { D with b:=Xe D.b (D.a.getD D.place []) })
 (hI:∀ u∈vb',∀ k,u.ownBlock=some k->(∃ u0∈vb,u0.ownBlock=some k)\/w.heap.size<=k) (hF:Far (U4 g1 vb) w w1) (hl:D.place+1≠D.a.length) :
 Went tyP S w p seed D.move1 ((w1.setCell ⟨g0,D.place,none⟩ (.slice none 0 0)).setCell ⟨p,3,none⟩ (.int .i64 (D.place+1:Nat))):=by
 have hd:D.move1=⟨D.a.set D.place [],Xe D.b (D.a.getD D.place []),D.place+1,D.n⟩:=by unfold Dc.move1;rw [if_neg hl]
 rw [hd];rcases hm1.tb with ⟨h,_⟩|⟨hb1,hA,hg,htb⟩
 ·exact absurd (by have:=congrArg List.length h;simp only [Yp] at this;exact List.eq_nil_of_length_eq_zero (by simpa using this)) hb
 have hgp:p≠g0:=fun e=>by have h1:=hm1.dict;rw [e] at h1;exact absurd (h1.ty hm1.ta.blk) (by decide)
 have hbl:=hm1.dict.setOther D.place (.slice none 0 0) hgp;have f1:Far (fun k=>k=g0) w1 (w1.setCell ⟨g0,D.place,none⟩ (.slice none 0 0)):=(Far.refl _ _).set _ _ (.inl rfl);have f2:Far (fun k=>k=p) (w1.setCell ⟨g0,D.place,none⟩ (.slice none 0 0)) ((w1.setCell ⟨g0,D.place,none⟩ (.slice none 0 0)).setCell ⟨p,3,none⟩ (.int .i64 (D.place+1:Nat))):=(Far.refl _ _).set _ _ (.inl rfl);refine Went.mk' (g0:=g0) (g1:=g1) (A1:=A1) (va:=va.set D.place (.slice none 0 0)) (vb:=vb') ⟨?_,?_,.inr ⟨hb1,hA,hg,?_⟩,?_⟩ ?_ (.inl hf.p) (.inl hf.g0) (fun _=>.inl (hf.g1 hb)) ?_
 ·have:=hbl.set 3 (.int .i64 (D.place+1:Nat))
  simpa using this
 ·exact (hm1.ta.emptied Km D.place).past Km f2 hbl
 ·refine TabAt.past Km ?_ f2 hbl;refine htb.far f1 ?_;rintro k (rfl|⟨v,hv,hk⟩) rfl
  ·exact hg rfl
  ·obtain ⟨r,hr⟩:=htb.mem hv;obtain ⟨c,hc⟩:=hr.blk hk;exact absurd (hm1.ta.blk.ty hc) (by decide)
 ·have hs:=hm1.sep;refine Sep.join ?_ hs.right fun v hv u hu k hk=>?_
  ·by_cases hi:D.place<va.length
   ·exact hs.left.set (lAa hi) fun k hk=>by simp [Value.ownBlock] at hk
   ·rw [List.set_eq_of_length_le (by omega)];exact hs.left
  ·rcases List.mem_or_eq_of_mem_set hv with h|rfl
   ·exact Sep.apart hs h hu hk
   ·simp [Value.ownBlock] at hk
 ·refine ((hF.mono (S1:=S) ?_).set _ _ (.inl hf.g0)).set _ _ (.inl hf.p);rintro k (rfl|⟨u,hu,hk⟩)
  ·exact hf.g1 hb
  ·exact hf.row u (List.mem_append_right _ hu) k hk
 ·intro v hv k hk;rcases List.mem_append.1 hv with h|h
  ·rcases List.mem_or_eq_of_mem_set h with h|rfl
   ·exact .inl (hf.row v (List.mem_append_left _ h) k hk)
   ·simp [Value.ownBlock] at hk
  ·rcases hI v h k hk with ⟨u0,h1,h2⟩|h1
   ·exact .inl (hf.row u0 (List.mem_append_right _ h1) k h2)
   ·exact .inr h1
theorem Ds{g0 g1:Nat}{A1:Option Addr}{va vb vb':List Value}(hf:Foot S p g0 g1 va vb D)(hb:D.b≠[]){w1:World}(hm1:Mem tyP w1 p g0 g1 A1 va vb' seed { D with b:=Xe D.b (D.a.getD D.place []) })
 (hI:∀ u∈vb',∀ k,u.ownBlock=some k->(∃ u0∈vb,u0.ownBlock=some k)\/w.heap.size<=k) (hF:Far (U4 g1 vb) w w1) (hl:D.place+1=D.a.length) :
 Went tyP S w p seed D.move1 (((((w1.setCell ⟨g0,D.place,none⟩ (.slice none 0 0)).setCell ⟨p,3,none⟩ (.int .i64 (D.place+1:Nat))).setCell ⟨p,0,none⟩ (.slice A1 D.b.length D.b.length)).setCell ⟨p,1,none⟩ (.slice none 0 0)).setCell ⟨p,3,none⟩ (.int .i64 0)):=by
 have hd:D.move1=⟨Xe D.b (D.a.getD D.place []),[],0,D.n⟩:=by unfold Dc.move1;rw [if_pos hl]
 rw [hd];rcases hm1.tb with ⟨h,_⟩|⟨hb1,hA,hg,htb⟩
 ·exact absurd (by have:=congrArg List.length h;simp only [Yp] at this;exact List.eq_nil_of_length_eq_zero (by simpa using this)) hb
 have hgp:p≠g0:=fun e=>by have h1:=hm1.dict;rw [e] at h1;exact absurd (h1.ty hm1.ta.blk) (by decide)
 have hbl:=hm1.dict.setOther D.place (.slice none 0 0) hgp;have f1:Far (fun k=>k=g0) w1 (w1.setCell ⟨g0,D.place,none⟩ (.slice none 0 0)):=(Far.refl _ _).set _ _ (.inl rfl)
 have f2:Far (fun k=>k=p) (w1.setCell ⟨g0,D.place,none⟩ (.slice none 0 0)) (((((w1.setCell ⟨g0,D.place,none⟩ (.slice none 0 0)).setCell ⟨p,3,none⟩ (.int .i64 (D.place+1:Nat))).setCell ⟨p,0,none⟩ (.slice A1 D.b.length D.b.length)).setCell ⟨p,1,none⟩ (.slice none 0 0)).setCell ⟨p,3,none⟩ (.int .i64 0)) :=
  ((((Far.refl (fun k=>k=p) _).set ⟨p,3,none⟩ _ (.inl rfl)).set ⟨p,0,none⟩ _ (.inl rfl)).set ⟨p,1,none⟩ _ (.inl rfl)).set ⟨p,3,none⟩ _ (.inl rfl)
 refine Went.mk' (g0:=g1) (g1:=g1) (A1:=none) (va:=vb') (vb:=[]) ⟨?_,?_,.inl ⟨rfl,rfl,rfl⟩,?_⟩ ?_ (.inl hf.p) (.inl (hf.g1 hb)) (fun h=>absurd rfl h) ?_
 ·have:=(((hbl.set 3 (.int .i64 (D.place+1:Nat))).set 0 (.slice A1 D.b.length D.b.length)).set 1 (.slice none 0 0)).set 3 (.int .i64 0)
  simpa [hA,Yp] using this
 ·refine TabAt.past Km ?_ f2 hbl;refine htb.far f1 ?_;rintro k (rfl|⟨v,hv,hk⟩) rfl
  ·exact hg rfl
  ·obtain ⟨r,hr⟩:=htb.mem hv;obtain ⟨c,hc⟩:=hr.blk hk;exact absurd (hm1.ta.blk.ty hc) (by decide)
 ·rw [List.append_nil];exact hm1.sep.right
 ·refine (((((hF.mono (S1:=S) ?_).set _ _ (.inl hf.g0)).set _ _ (.inl hf.p)).set _ _ (.inl hf.p)).set _ _ (.inl hf.p)).set _ _ (.inl hf.p);rintro k (rfl|⟨u,hu,hk⟩)
  ·exact hf.g1 hb
  ·exact hf.row u (List.mem_append_right _ hu) k hk
 ·intro v hv k hk;rw [List.append_nil] at hv;rcases hI v hv k hk with ⟨u0,h1,h2⟩|h1
  ·exact .inl (hf.row u0 (List.mem_append_right _ h1) k h2)
  ·exact .inr h1
theorem Aq(h:Rep tyP w p S seed D)(ok:D.Ok tyP)(hb:D.b≠[])(hn:D.n<=1000000) :
 Calls Tryz.prog 99 #[.pointer (some ⟨p,0,none⟩),.int .i64 D.place] w fun e w'=>e=.returned (.tuple #[])/\Went tyP S w p seed D.move1 w':=by
 obtain ⟨g0,g1,A1,va,vb,hm,hf,hc⟩:=h;obtain ⟨c0,c1,c2,c3,c4,f0,f1,f3,f4⟩:=Zy hm;have hpl:=ok.place hb;have hvl:va.length=D.a.length:=hm.ta.len;obtain ⟨v,hv⟩:∃ v,va[D.place]?=some v:=⟨_,lAa (by omega)⟩;have hr:=hm.ta.row _ _ _ hv (lAa hpl);have hgd:D.a.getD D.place []=D.a[D.place]:=by rw [List.getD_eq_getElem?_getD,lAa hpl];rfl
 rw [<- hgd] at hr;rcases hm.tb with ⟨h,_⟩|⟨_,rfl,hg,htb⟩
 ·exact absurd h hb
 have hcell:∀ W,(Blk W g0 195 va.toArray)->W.cell? ⟨g0,D.place,none⟩=some v/\W.frozen? ⟨g0,D.place,none⟩=false:=fun W hB=>⟨by rw [hB.cell];simpa using hv,hB.free _⟩;obtain ⟨d0,d1⟩:=hcell w hm.ta.blk
 have htot:D.b.flatten.length+(D.a.getD D.place []).length<=1000000:=by
  have h1:=Gg D.a (D.a.getD D.place []) (by rw [hgd];exact List.getElem_mem hpl);have h2:=ok.n;omega
 have hdr:Bl w w.drew:=(Below.refl _ _).drew;have hmd:=hm.later hdr;have htbd:=htb.later hdr
 have HPUT:=jY (Mt g1 vb D.b v (D.a.getD D.place []) w.drew htbd hm.sep.right (ok.b hb) (hr.far (S:=fun _=>False) (Far.of_below hdr) fun _ _ h=>h) (fun u hu k hk hk2=>Sep.apart hm.sep (lAc hv) hu hk2 hk)
  (ok.fine _ (.inl (by rw [hgd];exact List.getElem_mem hpl))) htot)
 have hal:=Zp ok.a;have hpl2:(D.place:Int)<D.a.length:=by omega
 have hgp:p≠g0:=fun e=>by have h1:=hm.dict;rw [e] at h1;exact absurd (h1.ty hm.ta.blk) (by decide)
 have hgp':g0≠p:=fun e=>hgp e.symm;have HMID:=fun w1 hP=>jY (Ar hmd hb (w1:=w1) hP);have HON:=fun vb' w1 hm1 hI hF hl=>jY (Went.since hdr (z5b (vb':=vb') (A1:=some ⟨g1,0,none⟩) (seed:=seed) hf hb (w:=w.drew) (w1:=w1) hm1 hI hF hl));have HLAST:=fun vb' w1 hm1 hI hF hl=>jY (Went.since hdr (Ds (vb':=vb') (A1:=some ⟨g1,0,none⟩) (seed:=seed) hf hb (w:=w.drew) (w1:=w1) hm1 hI hF hl));have HC:=fun W hB=>jY (hcell W hB);clear hm hf hc hmd htbd htb hr hv hcell hvl
 go_enter Tryz.func99,Tryz.ntmps99
 go_wp2
 go_still_tail 13,(by kernel_rfl)
 change wpList _ _ _ _ _ w.drew;go_wp2_with fail;refine HPUT.out.mono ?_;rintro e w1 ⟨rfl,hP⟩;obtain ⟨vb',hm1,hI,hF⟩:=(HMID _ hP).out;obtain ⟨k0,k1,k2,k3,k4,l0,l1,l3,l4⟩:=Zy hm1;obtain ⟨e0,e1⟩:=(HC _ hm1.ta.blk).out;have HON':=HON vb' w1 hm1 hI hF;have HLAST':=HLAST vb' w1 hm1 hI hF;simp only [Yp] at k1;clear HON HLAST HC HMID HPUT hm1 hI hF hP hgd
 by_cases hl:D.place+1=D.a.length
 ·have hl2:(D.place:Int)+1=D.a.length:=by omega
  have HL:=HLAST' hl;clear HON' HLAST' hl;have hl3:=jY hl2;have hl4:((D.place:Int)+1==D.a.length)=true:=by rw [hl2];simp
  clear hl2;go_wp2
  go_quiet (fail)
  go_wp2;go_returns;exact ⟨rfl,HL.out.later ⟨rfl,rfl,rfl,lAd _,fun _ _=>rfl⟩⟩
 ·have hl2:((D.place:Int)+1==D.a.length)=false:=by rw [beq_eq_false_iff_ne];omega
  have HL:=HON' hl;clear HON' HLAST' hl;go_wp2
  go_quiet (fail)
  go_wp2;go_returns;exact ⟨rfl,HL.out.later ⟨rfl,rfl,rfl,lAd _,fun _ _=>rfl⟩⟩
variable {S:Nat->Prop} {p seed:Nat} {D:Dc} {w:World}
theorem Jo(h:Rep tyP w p S seed D)(ok:D.Ok tyP)(L:List Nat):y6s Tryz.prog 98 #[.pointer (some ⟨p,0,none⟩)] #[] z7b (List.range' D.place D.left) L w:=by
 intro l J Jx W hW hJ hJx hY hJ0;have hR:=h.later hW;have hmv:=Vb hR;refine callsIn_of_wp Tryz.func98 rfl trivial ?_ rfl;simp only [Tryz.ntmps98,List.size_toArray,List.length_cons,List.length_nil,Nat.reduceAdd,Nat.reduceSub,Array.replicate_succ,Array.replicate_zero,List.push_toArray,List.append_toArray,List.nil_append,List.cons_append,List.append_nil];have HY:=jY hY;clear hY;obtain ⟨g0,g1,A1,va,vb,hm,_,_⟩:=hR;obtain ⟨c0,c1,c2,c3,c4,f0,f1,f3,f4⟩:=Zy hm
 cases hb:D.moving with
 | false =>
   have hl:D.left=0:=by unfold Dc.left;rw [if_pos ((Yt D).1 hb)]
   rw [hb] at hmv;have HM:=jY hmv;have HL:=jY hl;clear hmv hm hb hl h ok
   gi_wp2_with fail
   refine ⟨trivial,?_⟩;refine callsIn_wide.2 (Calls.mono HM.out ?_);rintro e w1 ⟨rfl,rfl⟩;gi_wp2;go_returns;exact ⟨⟨_,rfl⟩,.inl (by rw [HL.out];exact hJ0)⟩
 | true =>
   have hbn:=x7g hb;have hpl:=ok.place hbn;have hl:D.left=D.a.length-D.place:=by unfold Dc.left;rw [if_neg hbn]
   have hal:=(Zp ok.a).2;rw [hb] at hmv;have HM:=jY hmv;clear hmv hm hb h ok;have hpl2:(D.place:Int)<D.a.length:=by omega
   gi_wp2_with fail
   refine ⟨trivial,?_⟩;refine callsIn_wide.2 (Calls.mono HM.out ?_);rintro e w1 ⟨rfl,rfl⟩;gi_wp2
   gi_loopw [5] (fun s wr=>∃ (i:Nat),s=.int .i64 (D.place+i:Nat)/\i<=D.left/\J i wr) (fun s _=>D.a.length-(intOf s).toNat)
   case atStart=>exact ⟨0,rfl,by omega,hJ0⟩
   case round =>
    clear c0 c1 c2 c3 c4 f0 f1 f3 f4;obtain ⟨i,rfl,hi,hJi⟩:=hrel
    by_cases hlt:i<D.left
    ·have hx:(List.range' D.place D.left)[i]?=some (D.place+i):=by rw [List.getElem?_range' hlt];simp
     obtain ⟨fn,tmps,assign,body,hy,hRd⟩:=HY.out i _ wr hx hJi;unfold z7b at hy;have hq:((D.place+i:Nat):Int)<D.a.length:=by omega
     have hq2:((D.place+i:Nat):Int)<=65536:=by omega
     have HI:=jY hi;have HL:=jY hl;clear hl hx;generalize hs:D.place+i=s at *;have HS:=jY hs;clear hs
     gi_wp2_with fail
     (try refine ⟨fun _=>by decide,?_⟩)
     refine hRd.mono ?_;rintro e W3 (⟨rfl,hJ3,hk3⟩|⟨rfl,hJx3⟩)
     ·clear hRd hy;gi_wp2
      have:=HS.out
      refine ⟨⟨i+1,by congr 1;omega,hlt,hJ3⟩,?_⟩;simp only [intOf];omega
     ·gi_wp2
      go_end0
      exact ⟨⟨_,rfl⟩,.inr ⟨_,hJx3⟩⟩
    ·obtain rfl:i=D.left:=by omega
     have hq:¬ ((D.place+D.left:Nat):Int)<D.a.length:=by omega
     gi_wp2;refine ⟨fun _ h=>(by cases h),?_⟩;gi_wp2
     go_end0
     exact ⟨⟨_,rfl⟩,.inl (by rw [List.length_range'];exact hJi)⟩
theorem v3t:¬ itT tyP.d/\¬ itT tyP.t/\¬ itT tyP.r:=by unfold itT tyP;decide
theorem M3(h:Rep tyP w p S seed D)(ok:D.Ok tyP)(hn:D.n<=1000000)(n:Int) :
 Calls Tryz.prog 70 #[.pointer (some ⟨p,0,none⟩),.int .i64 n] w fun e w'=>e=.returned (.int .i64 (min n.toNat D.left:Nat))/\Went tyP S w p seed (D.step n.toNat) w':=by
 refine (callsIn_wide (n:=6)).1 (callsIn_of_wp_marks Tryz.func70 rfl trivial ?_ rfl);refine wpIn_wide.2 ?_;simp only [Tryz.ntmps70,List.size_toArray,List.length_cons,List.length_nil,Nat.reduceAdd,Nat.reduceSub,Array.replicate_succ,Array.replicate_zero,List.push_toArray,List.append_toArray,List.nil_append,List.cons_append];have hal:=(Zp ok.a).2;have hll:D.left<=65536:=by unfold Dc.left;split <;> omega
 have hfacts:=fun k hk=>jY (Pe ok k hk);go_wp2;refine wp_scope_straight ?_;go_wp2;refine wp_label ?_;go_wp2;have k1:=((Blk.new w 64 #[Value.pointer (some ⟨p,0,none⟩)]).alloc (Obj.cells #[Value.int .i64 n] 3)).alloc (Obj.cells #[Value.int .i64 0] 3);have k2:=(Blk.new (w.alloc (Obj.cells #[Value.pointer (some ⟨p,0,none⟩)] 64)) 3 #[Value.int .i64 n]).alloc (Obj.cells #[Value.int .i64 0] 3);have k3:=Blk.new ((w.alloc (Obj.cells #[Value.pointer (some ⟨p,0,none⟩)] 64)).alloc (Obj.cells #[Value.int .i64 n] 3)) 3 #[Value.int .i64 0];simp only [World.size_alloc] at k2 k3;have hB:=(((Below.refl w.heap.size w).alloc (lAd _) (Obj.cells #[Value.pointer (some ⟨p,0,none⟩)] 64)).alloc (by simp) (Obj.cells #[Value.int .i64 n] 3)).alloc (by simp;omega) (Obj.cells #[Value.int .i64 0] 3);have hsz:(((w.alloc (Obj.cells #[Value.pointer (some ⟨p,0,none⟩)] 64)).alloc (Obj.cells #[Value.int .i64 n] 3)).alloc (Obj.cells #[Value.int .i64 0] 3)).heap.size=w.heap.size+3:=by simp
 generalize (((w.alloc (Obj.cells #[Value.pointer (some ⟨p,0,none⟩)] 64)).alloc (Obj.cells #[Value.int .i64 n] 3)).alloc (Obj.cells #[Value.int .i64 0] 3))=w1 at *
 refine (wpIn_wide (n:=6)).1 (Fj (gf:=98) (fb:=#[.pointer (some ⟨p,0,none⟩)]) (lb:=#[]) (encs:=z7b) (xs:=List.range' D.place D.left) (L:=[w.heap.size+2]) rfl (enters_of Tryz.func98 (by kernel_rfl) rfl) (Jo (h.later hB) ok _) (fun _ _=>rfl)
  (fun i W=>(i:Int)<=n.toNat/\i<=D.left/\Went tyP S w p seed (Dc.run i D) W/\Blk W w.heap.size 64 #[.pointer (some ⟨p,0,none⟩)]/\Blk W (w.heap.size+1) 3 #[.int .i64 n]/\Blk W (w.heap.size+2) 3 #[Value.int IntKind.i64 i])
  (fun c _ W=>match c with
    | .exit id=>id=0/\n.toNat<=D.left/\Went tyP S w p seed (Dc.run n.toNat D) W/\Blk W (w.heap.size+2) 3 #[.int .i64 n.toNat]
    | _=>False)
  ?hI ?hIx ?h0 (fun i x a' W=>a'={ tmps:=#[Value.pointer (some ⟨p,0,none⟩),Value.int IntKind.i64 n,Value.pointer (some { block:=w.heap.size,off:=0 }),Value.pointer (some { block:=w.heap.size+1,off:=0 }),
   Value.int IntKind.i64 0,Value.pointer (some { block:=w.heap.size+2,off:=0 }),Value.int IntKind.i64 x,Value.pointer (some ⟨p,0,none⟩),Value.func (Fn.func 98) #[Value.pointer (some ⟨p,0,none⟩)] #[],Value.int IntKind.i64 x,
   undef,undef,undef,undef,undef,undef,undef,undef,undef],defers:=[] })
  (fun _ _ _=>Z4 _ _) ?assign ?body ?done ?stop)
 case hI=>exact (Z4 _ _).and ((Z4 _ _).and ((Xq _ (by omega) _ _ _).and ((Zh _ _ _ _).and ((Zh _ _ _ _).and (Zh _ _ _ _)))))
 case hIx =>
  intro c
  cases c with
  | exit id=>exact (Z4 _ _).and ((Z4 _ _).and ((Xq _ (by omega) _ _ (fun _=>_)).and (Zh _ _ _ _)))
  | _=>exact Z4 _ _
 case h0=>exact ⟨by omega,by omega,(Went.start h).later hB,k1,k2,k3⟩
 case assign =>
  rintro l i x W K hx' ⟨hi,hi2,q0,q1,q2,q3⟩ hK;unfold z7b;gi_wp2;exact hK _ _ (KeepsFrom.refl _ _) (KeepC.refl _ _) ⟨hi,hi2,q0,q1,q2,q3⟩ rfl
 case body =>
  rintro l i x a' W hx' ⟨hi,hi2,q0,q1,q2,q3⟩ rfl;obtain ⟨hlt,hxe⟩:=lAb.1 hx';rw [List.length_range'] at hlt;rw [List.getElem_range'] at hxe;obtain rfl:x=D.place+i:=by omega
  obtain ⟨ok1,_,hn1,hfi⟩:=(hfacts i hi2).out;obtain ⟨hbi,hpi⟩:=hfi hlt;obtain ⟨c1,d1⟩:=Z5 q1;obtain ⟨c2,d2⟩:=Z5 q2;obtain ⟨c3,d3⟩:=Z5 q3;have hMV:=Aq q0.1 ok1 hbi (by omega);rw [hpi] at hMV;have HMV:=jY hMV;have Q0:=jY q0;have Q1:=jY q1;have Q2:=jY q2;have Q3:=jY q3;clear hMV hxe k1 k2 k3 q0 q1 q2 q3 hpi hx' hn1;have hi3:(i:Int)<=65536:=by omega
  by_cases hni:n<=(i:Int)
  ·have hin:n.toNat=i:=by omega
   gi_wp2;refine ⟨KeepsFrom.refl _ _,rfl,by omega,?_,?_⟩
   ·rw [hin];exact Q0.out
   ·rw [hin];exact Q3.out
  ·have hni2:(i:Int)<n:=by omega
   clear hni
   gi_wp2_with fail
   (try refine ⟨trivial,?_⟩)
   refine (CallsIn.inRound l (callsIn_wide.2 HMV.out)).mono ?_;rintro e W2 ⟨rfl,hw⟩;have q1':=hw.blk Q1.out (fun k hk=>hk.2) (by decide);have q2':=hw.blk Q2.out (fun k hk=>hk.2) (by decide);have q3':=hw.blk Q3.out (fun k hk=>hk.2) (by decide);obtain ⟨e3,g3⟩:=Z5 q3';have hkf:=hw.2.keeps (fun k hk=>hk.2) w1.heap.size;have hkc:=hw.2.keepc (fun k hk=>hk.2) v3t [w.heap.size+2];have HW:=jY (Q0.out.trans hw);have P1:=jY q1';have P2:=jY q2';have P3:=jY q3';clear hw q1' q2' q3';gi_wp2;refine ⟨hkf.trans ((KeepsOthers.setCell _ _ _).from _),hkc.trans (KeepC.set _ _ _ _ (by simp)),by omega,hlt,?_,?_,?_,?_⟩
   ·have hz:=HW.out.2.size
    have:=(HW.out.1.far (S1:=fun k=>k=w.heap.size+2) (W':=W2.setCell ⟨w.heap.size+2,0,none⟩ (.int .i64 ((i:Int)+1))) ((Far.refl _ _).set _ _ (.inl rfl)) (fun k hk e=>by subst e;exact Yx P3.out (by decide) hk.2))
    exact ⟨this.wide (fun k hk=>⟨hk.1,this.cells k hk⟩) (fun _ hk=>hk.2),HW.out.2.set _ _ (.inr (by simp))⟩
   ·exact P1.out.setOther 0 _ (by omega)
   ·exact P2.out.setOther 0 _ (by omega)
   ·exact P3.out.set 0 _
 case done =>
  rintro Dd W hD ⟨hi,hi2,q0,q1,q2,q3⟩ hK;rw [List.length_range'] at *;obtain ⟨c3,d3⟩:=Z5 q3;have HK:=jY hK;have Q0:=jY q0;clear hK q0 q1 q2 q3 k1 k2 k3;have hmin:min n.toNat D.left=D.left:=by omega
  simp only [Exit.inBlock,Exit.then];go_wp2;refine Y5 (v:=.int .i64 D.left) rfl HK.out (by simp [results,Tryz.results70,go_sem]) ⟨by rw [hmin],?_⟩;unfold Dc.step;rw [hmin];exact (Xq (β:=Unit) w.heap.size (lAd _) p seed (fun _=>_)).putObj (s:=()) _ Q0.out (by omega) HK.out rfl
 case stop =>
  rintro Dd c j W hD hI hK
  cases c with
  | exit id =>
    obtain ⟨rfl,hi2,q0,q3⟩:=hI;obtain ⟨c3,d3⟩:=Z5 q3;have HK:=jY hK;have Q0:=jY q0;clear hK q0 q3 k1 k2 k3;have hmin:min n.toNat D.left=n.toNat:=by omega
    refine wpIn_wide.2 ?_;go_wp2;refine Y5 (v:=.int .i64 (n.toNat:Nat)) rfl HK.out (by simp [results,Tryz.results70,go_sem]) ⟨by rw [hmin],?_⟩;unfold Dc.step;rw [hmin];exact (Xq (β:=Unit) w.heap.size (lAd _) p seed (fun _=>_)).putObj (s:=()) _ Q0.out (by omega) HK.out rfl
  | _=>exact hI.elim
end Go.Proofs.YtcklcmafohlflaaGreatDoor.Dc.Dt

/- Texts of one kind in one: DtSet, DtIs, SnRangeS, SnCursors, SnOrdered, SnShelf. -/
import Derived.Test.YtcklcmafohlflaaGreatDoorQDtSlots09
import Derived.Shelf.Sort.Plain
import Derived.Shelf.GgSortFunc.Tiny
import Derived.Shelf.GgSortFunc.Whole
import Derived.Shelf.Slices.In.SortNone
set_option maxRecDepth 200000
set_option maxHeartbeats 8000000
namespace Go.Proofs.YtcklcmafohlflaaGreatDoor.Dc.Dt
open Zc
open Go.RowKit Go.Shelf
attribute [local go_sem] Oper.semAt_some
variable {S:Nat->Prop} {p seed:Nat} {D:Dc} {w:World}
theorem z5c{W:World}{g g':Nat}{vs us:List Value}{rows rows':List (List Nd)}(h:TabAt tyP W g vs rows)(h':TabAt tyP W g' us rows')(hg:g≠g')(hs:∀ v∈vs,∀ u∈us,∀ k,v.ownBlock=some k->u.ownBlock≠some k):∀ k,U4 g vs k->¬ U4 g' us k:=by
 rintro k (rfl|⟨v,hv,hk⟩) (h2|⟨u,hu,hk2⟩)
 ·exact hg h2
 ·obtain ⟨r,hr⟩:=h'.mem hu;obtain ⟨c,hc⟩:=hr.blk hk2;exact absurd (h.blk.ty hc) (by decide)
 ·subst h2;obtain ⟨r,hr⟩:=h.mem hv;obtain ⟨c,hc⟩:=hr.blk hk;exact absurd (h'.blk.ty hc) (by decide)
 ·exact hs v hv u hu k hk hk2
theorem J4{W:World}{g:Nat}{vs:List Value}{rows:List (List Nd)}{c:Array Value}(h:TabAt tyP W g vs rows)(hp:Blk W p tyP.d c):¬ U4 g vs p:=by
 rintro (rfl|⟨v,hv,hk⟩)
 ·exact absurd (hp.ty h.blk) (by decide)
 ·obtain ⟨r,hr⟩:=h.mem hv;obtain ⟨c,hc⟩:=hr.blk hk;exact absurd (hp.ty hc) (by decide)
theorem Jp{W W1 W':World}{g0 g1:Nat}{A1:Option Addr}{va vb:List Value}(hm:Mem tyP W p g0 g1 A1 va vb seed D)(hf:Foot (V3 tyP S w W) p g0 g1 va vb D)(hF:Far S w W)(hb1:Bl W W1)(x:Nd)
 (hP:PutI W1 (if D.b=[] then g0 else g1) (if D.b=[] then va else vb) (if D.b=[] then D.a else D.b) [x] 1 W') :
 Went tyP S w p seed (if D.b=[] then { D with a:=Vs D.a x } else { D with b:=Vs D.b x }) W':=by
 obtain ⟨vs',hT,hS,hI,hFP⟩:=hP;have hm1:=hm.later hb1
 by_cases hb:D.b=[]
 ·simp only [hb,if_true] at hT hI hFP ⊢
  have hvb:vb=[]:=by
   rcases hm.tb with ⟨_,h,_⟩|⟨h,_⟩
   ·exact h
   ·exact absurd hb h
  have hA:A1=none:=by
   rcases hm.tb with ⟨_,_,h⟩|⟨h,_⟩
   ·exact h
   ·exact absurd hb h
  subst hvb hA;refine Went.mk' (g0:=g0) (g1:=g1) (A1:=none) (va:=vs') (vb:=[]) ⟨?_,hT,.inl ⟨rfl,rfl,rfl⟩,by rw [List.append_nil];exact hS⟩ (((hF.then_below hb1).trans hFP fun k hk=>?_)) hf.p.1 hf.g0.1 (fun h=>absurd rfl h) fun v hv k hk=>?_
  ·have:=hFP.blk hm1.dict (J4 hm1.ta hm1.dict)
   simp only [hb] at this
   simpa [hb,Yz] using this
  ·rcases hk with rfl|⟨v,hv,hk⟩
   ·exact hf.g0.1
   ·exact (hf.row v (List.mem_append_left _ hv) k hk).1
  ·rw [List.append_nil] at hv;rcases hI v hv k hk with ⟨u0,h1,h2⟩|h1
   ·exact (hf.row u0 (List.mem_append_left _ h1) k h2).1
   ·exact .inr (lAe hF.size (lAe hb1.size h1))
 ·simp only [hb,if_false] at hT hI hFP ⊢;rcases hm1.tb with ⟨h,_⟩|⟨_,hA,hg,htb⟩
  ·exact absurd h hb
  have hne:Vs D.b x≠[]:=fun e=>hb (List.eq_nil_of_length_eq_zero (by have:=congrArg List.length e;rw [Yz] at this;simpa using this));have hsa:=fun v (hv:v∈va) u (hu:u∈vb) k hk=>Sep.apart hm.sep hv hu (k:=k) hk;refine Went.mk' (g0:=g0) (g1:=g1) (A1:=A1) (va:=va) (vb:=vs') ⟨?_,hm1.ta.far hFP (z5c hm1.ta htb (fun e=>hg e.symm) hsa),.inr ⟨hne,hA,hg,hT⟩,?_⟩ (((hF.then_below hb1).trans hFP fun k hk=>?_)) hf.p.1 hf.g0.1 (fun _=>(hf.g1 hb).1) fun v hv k hk=>?_
  ·have:=hFP.blk hm1.dict (J4 htb hm1.dict)
   simpa [Yz] using this
  ·refine hm.sep.left.join hS fun v hv u hu k hk hk2=>?_;rcases hI u hu k hk2 with ⟨u0,h1,h2⟩|h1
   ·exact hsa v hv u0 h1 k hk h2
   ·obtain ⟨r,hr⟩:=hm1.ta.mem hv
    have:=hr.lt hk
    omega
  ·rcases hk with rfl|⟨v,hv,hk⟩
   ·exact (hf.g1 hb).1
   ·exact (hf.row v (List.mem_append_right _ hv) k hk).1
  ·rcases List.mem_append.1 hv with h|h
   ·exact (hf.row v (List.mem_append_left _ h) k hk).1
   ·rcases hI v h k hk with ⟨u0,h1,h2⟩|h1
    ·exact (hf.row u0 (List.mem_append_right _ h1) k h2).1
    ·exact .inr (lAe hF.size (lAe hb1.size h1))
theorem y3d{w2:World}(h2:Went tyP S w p seed D w2)(ok:D.Ok tyP)(hn:D.n+1<=1000000)(x:Nd)(hx:x.fine tyP) :
 ∃ tv:Value,(∃ A n,tv=.slice A n n)/\(∀ W,Bl w2 W->Hid (Calls Tryz.prog 136 #[.pointer (some ⟨p,0,none⟩)] W fun e w'=>e=.returned tv/\w'=W)) /\
  (∀ W,Bl w2 W->Hid (Calls Tryz.prog 137 #[tv,.slice (some ⟨W.heap.size,0,none⟩) 1 1] (W.alloc (.cells x.cells.toArray 194)) fun e W'=>e=.returned (.tuple #[])/\Went tyP S w p seed (D.ins x) W')):=by
 obtain ⟨g0,g1,A1,va,vb,hm,hf,hc⟩:=h2.1;refine ⟨if D.b=[] then .slice (some ⟨g0,0,none⟩) D.a.length D.a.length else .slice A1 D.b.length D.b.length,?_,fun W hW=>?_,fun W hW=>?_⟩
 ·split
  ·exact ⟨_,_,rfl⟩
  ·exact ⟨_,_,rfl⟩
 ·have hN:=G9 (S:=V3 tyP S w w2) (hm.later hW) hf (fun k hk=>(hc k hk).same (hW.block k (hc k hk).lt))
  have e:(bif D.moving then Value.slice A1 D.b.length D.b.length else .slice (some ⟨g0,0,none⟩) D.a.length D.a.length)=(if D.b=[] then .slice (some ⟨g0,0,none⟩) D.a.length D.a.length else .slice A1 D.b.length D.b.length):=by
   cases hmv:D.moving with
   | false=>rw [if_pos ((Yt D).1 hmv)];rfl
   | true=>rw [if_neg (x7g hmv)];rfl
  rw [e] at hN;exact jY hN
 ·have hb1:Bl w2 (W.alloc (.cells x.cells.toArray 194)):=hW.alloc hW.size _;have hm1:=hm.later hb1
  have hrow:RowAt tyP (W.alloc (.cells x.cells.toArray 194)) (.slice (some ⟨W.heap.size,0,none⟩) 1 1) [x]:=by
   have:=World.ownsRow_lit (base:=0) (e:=194) (size:=3) W x.cells.toArray 1 (Nat.zero_le _) (by unfold maxLen;omega) rfl
   simpa [RowAt,Xs,tyP] using this
  have hfl:=ok.n
  by_cases hb:D.b=[]
  ·have hP:=Mt g0 va D.a _ [x] _ hm1.ta hm1.sep.left ok.a hrow (fun u hu k hk h=>by
    obtain ⟨r,hr⟩:=hm.ta.mem hu;have h1:=hr.lt hk;have h2:=hW.size;simp [Value.ownBlock] at h
    omega) (fun y hy=>by simp at hy;subst hy;exact hx) (by simp only [List.length_singleton];omega)
   refine jY ?_;rw [if_pos hb];refine hP.mono fun e W' ⟨he,hPI⟩=>⟨he,?_⟩;exact Jp hm hf h2.2 hb1 x (by simpa only [hb,if_true,List.length_singleton] using hPI)
  ·rcases hm1.tb with ⟨h,_⟩|⟨_,hA,hg,htb⟩
   ·exact absurd h hb
   have hP:=Mt g1 vb D.b _ [x] _ htb hm1.sep.right (ok.b hb) hrow (fun u hu k hk h=>by
    rcases hm.tb with ⟨h5,_⟩|⟨_,_,_,htb0⟩
    ·exact absurd h5 hb
    obtain ⟨r,hr⟩:=htb0.mem hu;have h1:=hr.lt hk;have h2:=hW.size;simp [Value.ownBlock] at h
    omega) (fun y hy=>by simp at hy;subst hy;exact hx) (by simp only [List.length_singleton];omega)
   refine jY ?_;rw [if_neg hb,hA];refine hP.mono fun e W' ⟨he,hPI⟩=>⟨he,?_⟩;exact Jp hm hf h2.2 hb1 x (by simpa only [hb,if_false,List.length_singleton] using hPI)
theorem Ia(hsd:seed<4294967296)(h:Rep tyP w p S seed D)(ok:D.Ok tyP)(hn:D.n+1<=1000000)(key:ByteArray)(hk:key.size<=281474976710656)(nv:Option Addr) :
 Calls Tryz.prog 86 #[.pointer (some ⟨p,0,none⟩),.string key,.pointer nv] w fun e w' =>
  e=.returned (.bool (!((D.step 1).hit (Zq seed key.data.toList) key).isSome))/\Went tyP S w p seed (D.setS (Zq seed key.data.toList) key (.pointer nv)) w':=by
 have hb0:Bl w (w.alloc (Obj.cells #[.pointer nv] 79)):=(Below.refl _ _).alloc (lAd _) _;have k0:=Blk.new w 79 #[.pointer nv];have hw:=h.later hb0;obtain ⟨ok1,hn1⟩:=Qj ok 1;have hmf:∀ (fn:Fn) (first cap:Array Value) (w:World),(Instr.makeFunc fn first cap).run Tryz.prog w=.ok (.func fn first cap) w:=fun _ _ _ _=>rfl;have hsl:=Of seed key.data.toList
 cases hh:(D.step 1).hit (Zq seed key.data.toList) key with
 | some ji =>
   obtain ⟨j,i⟩:=ji;have hd:D.setS (Zq seed key.data.toList) key (.pointer nv)=(D.step 1).upd (Zq seed key.data.toList) j (Mw i (.pointer nv)):=by unfold Dc.setS;rw [hh]
   rw [hd];obtain ⟨r,y,h1,h2,h3⟩:=Mo hh
   have hrl:r.length<=1000000:=by
    have h4:=V6 (D:=D.step 1) _ j r h1;have h5:=ok1.n;omega
   have hF:=Yq hsd hw ok (by omega) key hk 134 #[.pointer (some ⟨w.heap.size,0,none⟩)] (some (j,i)) (fun j' i' h=>by cases h;exact Qs hh) (fun h=>by cases h) (fun W'=>Went tyP S (w.alloc (Obj.cells #[.pointer nv] 79)) p seed ((D.step 1).upd (Zq seed key.data.toList) j (Mw i (.pointer nv))) W')
    (fun j' i' h=>by cases h;exact z0h ok1 hw.cells h1 h2 hrl w.heap.size nv k0)
   have HF:=jY hF;clear hF hh k0 h3 h1 h2 hd
   go_enter Tryz.func86,Tryz.ntmps86
   go_wp2_with fail;refine HF.out.mono ?_;rintro e w1 ⟨rfl,_,hw1⟩;have HW:=jY (hw1 rfl);clear hw1;go_wp2;go_ret;exact ⟨rfl,Went.since hb0 HW.out⟩
 | none =>
   have hd:D.setS (Zq seed key.data.toList) key (.pointer nv)=((D.step 1).grown).add ⟨Zq seed key.data.toList,key,.pointer nv⟩:=by unfold Dc.setS;rw [hh]
   rw [hd];obtain ⟨ok2,hn2⟩:=Ae ok1;have hF:=Yq hsd hw ok (by omega) key hk 134 #[.pointer (some ⟨w.heap.size,0,none⟩)] none (fun j i h=>by cases h) (fun _=>hit_none hh) (fun _=>False) (fun j i h=>by cases h);have HF:=jY hF;have HK:=jY k0;have HC:=jY hw.cells;clear hF hh k0 hd;have HNM:=fun W (hR:Rep tyP W p (V3 tyP S (w.alloc (Obj.cells #[.pointer nv] 79)) W) seed (D.step 1).grown)=>jY (Vw hsd hR key hk);generalize Zq seed key.data.toList=s at *
   go_enter Tryz.func86,Tryz.ntmps86
   go_wp2_with fail;refine HF.out.mono ?_;rintro e w1 ⟨rfl,hw1,_⟩;have hW1:=hw1 trivial;have hG:=Ad hW1.1 (by omega);have HW1:=jY hW1;have HG:=jY hG;clear hw1 hW1 hG;go_wp2_with fail;refine HG.out.mono ?_;rintro e w2 ⟨rfl,hw2⟩;have hW2:=HW1.out.trans hw2;obtain ⟨tv,⟨At,nt,rfl⟩,HNEW,HPUT⟩:=y3d hW2 ok2 (by omega) ⟨s,key,.pointer nv⟩ ⟨hsl,nv,rfl⟩;have hvb:=hW2.blk HK.out HC.out (by decide);have HVB:=jY hvb;have B0:Bl w2 w2.drew:=(Below.refl _ _).drew;have HW2:=jY hW2;obtain ⟨v0,v1⟩:=Z5 hvb;have HCL:=fun W=>jY (Ot key hk W);clear hw2 hW2 hvb;unfold Nd.cells at HPUT;go_wp2
   go_region_law (go_simp;first
    | (go_at_call 85;refine (HCL _).out.mono ?_;rintro e w3 ⟨rfl,hb3⟩;have B3:Bl w2 w3:=Dv hb3;obtain ⟨v3,x3⟩:=Z5 (HVB.out.later B3))
    | (go_at_call 138;refine (HNM _ (HW2.out.later B3).1).out.mono ?_;rintro e w4 ⟨rfl,hb4⟩;have B4:Bl w2 w4:=B3.trans (hb4.mono B3.size);obtain ⟨v4,x4⟩:=Z5 (HVB.out.later B4))
    | (go_at_call 136;refine (HNEW _ (by first|exact B0|exact B3|exact B4|exact B4.alloc B4.size _)).out.mono ?_;rintro e w5 ⟨rfl,rfl⟩)
    | (go_at_call 137;refine (HPUT _ B4).out.mono ?_;rintro e w6 ⟨rfl,hW6⟩))
   all_goals (
    obtain ⟨q0,q1⟩:=Qp hW6;rw [v0i] at q0;have hN:=z0o hW6 ((D.step 1).grown.n+1);rw [y5l] at hN;have HN:=jY hN;have hb1:((D.step 1).grown.n:Int)+1<=1000000:=by omega
    clear hN hW6;go_wp2;go_ret;refine ⟨rfl,Went.since hb0 ?_⟩
    have:=HN.out
    rwa [show (((D.step 1).grown.n+1:Nat):Int)=(D.n:Int)+1 by omega] at this)
theorem Uv(sd:Nat)(w:World):Calls Tryz.prog 56 #[.int .u32 sd] w fun e w'=>∃ q,e=.returned (.pointer (some ⟨q,0,none⟩))/\Rep tyP w' q (fresh tyP w w') sd Du/\Bl w w':=by
 obtain ⟨i0,hi0,hz0,hz1,hz2⟩:=info_parts F0;have hmk:=fun W=>run_make (P:=Tryz.prog) W 128 195 i0 _ Tryz.underlying128 hi0 hz0 .i64 .i64 4 4 (by omega) (Int.le_refl _) (by rw [hz2];omega) (by omega);rw [hz1] at hmk;simp only [Int.reduceToNat,Nat.mul_one] at hmk
 go_enter Tryz.func56,Tryz.ntmps56
 go_wp2;go_returns;refine ⟨_,rfl,?_,((Below.refl _ _).alloc (lAd _) _).alloc (by simp) _⟩;have h1:=(Blk.new w 195 (madeCells #[Value.slice none 0 0] 4)).alloc (Obj.cells #[Value.slice (some { block:=w.heap.size,off:=0 }) 4 4,Value.slice none 0 0,Value.int IntKind.u32 ↑sd,Value.int IntKind.i64 0,Value.int IntKind.i64 0] 131);have h2:=Blk.new (w.alloc (Obj.cells (madeCells #[Value.slice none 0 0] 4) 195)) 131 #[Value.slice (some { block:=w.heap.size,off:=0 }) 4 4,Value.slice none 0 0,Value.int IntKind.u32 ↑sd,Value.int IntKind.i64 0,Value.int IntKind.i64 0];rw [World.size_alloc] at h2
 have hmc:madeCells #[Value.slice none 0 0] 4=(List.replicate 4 (Value.slice none 0 0)).toArray:=by
  rw [<- toList_madeCells_one]
 have hW:=Went.mk' (T:=tyP) (S:=fun _=>False) (W:=w) (g0:=w.heap.size) (g1:=0) (A1:=none) (va:=List.replicate 4 (.slice none 0 0)) (vb:=[]) (D:=Du) (seed:=sd) ⟨h2,⟨by rw [<- hmc];exact h1,rfl,fun i v r hv hr=>?_⟩,.inl ⟨rfl,rfl,rfl⟩,?_⟩
  (Far.of_below (((Below.refl _ _).alloc (lAd _) _).alloc (by simp) _)) (.inr (by simp)) (.inr (lAd _)) (fun h=>absurd rfl h) (fun v hv k hk=>?_)
 ·exact hW.1
 ·obtain ⟨hi,rfl⟩:=lAb.1 hv;obtain ⟨hi2,rfl⟩:=lAb.1 hr;simp only [Du,List.getElem_replicate];exact RowAt.nil _ _
 ·refine Sep.none fun v hv=>?_;rw [List.append_nil] at hv;rw [List.eq_of_mem_replicate hv];rfl
 ·rw [List.append_nil] at hv;rw [List.eq_of_mem_replicate hv] at hk;simp [Value.ownBlock] at hk
def Q7(a:Addr):Value:=.pointer (some a)
def Is(W:World)(p:Nat)(S:Nat->Prop)(seed:Nat)(m:ByteArray->Option Addr)(n:Sh):Prop :=
 ∃ D,Rep tyP W p S seed D/\Like tyP seed D (fun k=>(m k).map Q7)/\D.shape=n
def z8t(m:ByteArray->Option Addr)(key:ByteArray)(v:Addr):ByteArray->Option Addr:=fun k=>if k=key then some v else m k
def z9d(m:ByteArray->Option Addr)(key:ByteArray):ByteArray->Option Addr:=fun k=>if k=key then none else m k
def IsNow(S:Nat->Prop)(W:World)(p seed:Nat)(m:ByteArray->Option Addr)(n:Sh)(W':World):Prop:=Is W' p (V3 tyP S W W') seed m n/\Far S W W'
theorem Is.far{S S1:Nat->Prop}{W W':World}{p seed:Nat}{n:Sh}{m:ByteArray->Option Addr}(h:Is W p S seed m n)(f:Far S1 W W')(hd:∀ k,S k->¬ S1 k):Is W' p S seed m n:=by
 obtain ⟨D,h1,h2,h3⟩:=h;exact ⟨D,h1.far f hd,h2,h3⟩
theorem Is.cells{S:Nat->Prop}{W:World}{p seed:Nat}{n:Sh}{m:ByteArray->Option Addr}(h:Is W p S seed m n):∀ k,S k->CellB tyP W k:=by obtain ⟨D,h1,_⟩:=h;exact h1.cells
theorem Is.lt{S:Nat->Prop}{W:World}{p seed:Nat}{n:Sh}{m:ByteArray->Option Addr}(h:Is W p S seed m n):∀ k,S k->k<W.heap.size:=fun k hk=>(h.cells k hk).lt
theorem IsNow.of{S:Nat->Prop}{W W':World}{p seed:Nat}{n:Sh}{m:ByteArray->Option Addr}{D:Dc}(h:Went tyP S W p seed D W')(hl:Like tyP seed D (fun k=>(m k).map Q7))(hn:D.shape=n):IsNow S W p seed m n W':=⟨⟨D,h.1,hl,hn⟩,h.2⟩
section
variable {S:Nat->Prop} {p seed:Nat} {n:Sh} {m:ByteArray->Option Addr} {w:World}
theorem z4z(m:ByteArray->Option Addr)(key:ByteArray)(v:Addr):(fun k=>(z8t m key v k).map Q7)=y3c (fun k=>(m k).map Q7) key (Q7 v):=by
 funext k
 unfold z8t y3c
 split <;> rfl
theorem z5a(m:ByteArray->Option Addr)(key:ByteArray):(fun k=>(z9d m key k).map Q7)=y3l (fun k=>(m k).map Q7) key:=by
 funext k
 unfold z9d y3l
 split <;> rfl
theorem y2m(sd:Nat)(w:World):Calls Tryz.prog 56 #[.int .u32 sd] w fun e w'=>∃ q,e=.returned (.pointer (some ⟨q,0,none⟩))/\Is w' q (fresh tyP w w') sd (fun _=>none) ⟨4,0,0,0⟩/\Bl w w' :=
 (Uv sd w).mono fun _ _ ⟨q,h1,h2,h3⟩=>⟨q,h1,⟨Du,h2,Like.new _ _,rfl⟩,h3⟩
theorem y1n(hsd:seed<4294967296)(h:Is w p S seed m n)(hn:n.n<=1000000)(key:ByteArray)(hk:key.size<=281474976710656) :
 Calls Tryz.prog 79 #[.pointer (some ⟨p,0,none⟩),.string key] w fun e w'=>e=.returned (.tuple #[.pointer (m key),.bool (m key).isSome])/\IsNow S w p seed m n.step1 w':=by
 obtain ⟨D,h1,h2,h3⟩:=h;have hn':D.n<=1000000:=by rw [<- h3] at hn;exact hn
 refine (Gy hsd h1 h2.1.ok hn' key hk).mono fun e w' ⟨he,hw⟩=>?_;obtain ⟨q1,q2,q3,q4⟩:=(h2.step 1).hit key;refine ⟨?_,IsNow.of hw (h2.step 1) ((Pz h2.1.ok 1).trans (by rw [h3];rfl))⟩;rw [he,q1]
 congr 2
 cases hm:m key with
 | none =>
   rw [q3 (by simp only [hm];rfl)];rfl
 | some v =>
   obtain ⟨y,hy⟩:=q4 (by simp only [hm];rfl)
   have:=q2 y hy
   simp only [hm,Option.map_some,Option.some.injEq] at this;rw [hy];simp only [v2l,<- this,Q7];rfl
theorem y3u(hsd:seed<4294967296)(h:Is w p S seed m n)(hn:n.n+1<=1000000)(key:ByteArray)(hk:key.size<=281474976710656)(v:Addr) :
 Calls Tryz.prog 86 #[.pointer (some ⟨p,0,none⟩),.string key,.pointer (some v)] w fun e w'=>e=.returned (.bool (!(m key).isSome))/\IsNow S w p seed (z8t m key v) (n.set (m key).isSome) w':=by
 obtain ⟨D,h1,h2,h3⟩:=h;have hn':D.n+1<=1000000:=by rw [<- h3] at hn;exact hn
 refine (Ia hsd h1 h2.1.ok hn' key hk (some v)).mono fun e w' ⟨he,hw⟩=>?_;obtain ⟨q1,_⟩:=(h2.step 1).hit key;obtain ⟨g1,_⟩:=h2.set key (Q7 v) ⟨some v,rfl⟩;have g2:=z2y h2.1.ok (Zq seed key.data.toList) key (.pointer (some v));rw [<- z4z] at g1;simp only [Option.isSome_map] at q1;exact ⟨by rw [he,q1],IsNow.of hw g1 (by rw [g2,h3,q1])⟩
theorem y0v(hsd:seed<4294967296)(h:Is w p S seed m n)(hn:n.n<=1000000)(key:ByteArray)(hk:key.size<=281474976710656) :
 Calls Tryz.prog 84 #[.pointer (some ⟨p,0,none⟩),.string key] w fun e w'=>e=.returned (.bool (m key).isSome)/\IsNow S w p seed (z9d m key) (n.del (m key).isSome) w'/\((m key).isSome=true->0<n.n):=by
 obtain ⟨D,h1,h2,h3⟩:=h;have hn':D.n<=1000000:=by rw [<- h3] at hn;exact hn
 refine (z3v hsd h1 h2.1.ok hn' key hk).mono fun e w' ⟨he,hw⟩=>?_;obtain ⟨q1,_⟩:=(h2.step 1).hit key;obtain ⟨g1,_,g3⟩:=h2.del key;have g2:=z2x h2.1.ok (Zq seed key.data.toList) key;rw [<- z5a] at g1;simp only [Option.isSome_map] at q1 g3;exact ⟨by rw [he,q1],IsNow.of hw g1 (by rw [g2,h3,q1]),fun e=>by rw [<- h3];exact g3 e⟩
theorem v1u(h:Is w p S seed m n):Calls Tryz.prog 40 #[.pointer (some ⟨p,0,none⟩)] w fun e w'=>e=.returned (.int .i64 n.n)/\w'=w:=by
 obtain ⟨D,h1,h2,h3⟩:=h;rw [<- h3];exact I2 h1
theorem z9n(h:Is w p S seed m n):Calls Tryz.prog 78 #[.pointer (some ⟨p,0,none⟩)] w fun e w'=>e=.returned (.tuple #[.int .i64 n.A,.int .i64 n.B,.int .i64 n.At])/\Bl w w':=by
 obtain ⟨D,h1,h2,h3⟩:=h;rw [<- h3];exact z9o h1
theorem x9v(h:Is w p S seed m n)(hn:n.n<=1000000)(q:Int):Calls Tryz.prog 70 #[.pointer (some ⟨p,0,none⟩),.int .i64 q] w fun e w'=>e=.returned (.int .i64 (min q.toNat n.left:Nat))/\IsNow S w p seed m (Sh.steps q.toNat n) w':=by
 obtain ⟨D,h1,h2,h3⟩:=h;have hn':D.n<=1000000:=by rw [<- h3] at hn;exact hn
 refine (M3 h1 h2.1.ok hn' q).mono fun e w' ⟨he,hw⟩=>⟨by rw [he,<- h3,y3w],IsNow.of hw (h2.step _) ((Pz h2.1.ok _).trans (by rw [h3]))⟩
end
end Go.Proofs.YtcklcmafohlflaaGreatDoor.Dc.Dt
namespace Go.Proofs.YtcklcmafohlflaaGreatDoor.Dc.Dt.Sc
open Zc
open Go.RowKit Go.Shelf
attribute [local go_sem] Oper.semAt_some
def itT(t:TypeId):Prop:=t=24\/t=171\/t=334
theorem x2u{W W':World}{L:List Nat}{b:Nat}{t:TypeId}{c:Array Value}(h:Blk W b t c)(hk:KeepC itT L W W')(hn:b ∉ L)(ht:itT t:=by first|exact .inl rfl|exact .inr (.inl rfl)|exact .inr (.inr rfl)):Blk W' b t c:=hk.same b c t hn ht h
end Go.Proofs.YtcklcmafohlflaaGreatDoor.Dc.Dt.Sc
namespace Go.Proofs.YtcklcmafohlflaaGreatDoor.Dc.Dt
open Zc
open Go.RowKit Go.Shelf
attribute [local go_sem] Oper.semAt_some
def Cy(_:Nat)(x:Nat × Nat):Array Value:=#[.int .i64 x.1,.int .u32 x.2]
def Mu(s q:Nat):List (Nat × Nat):=(List.range' q (s-q)).map fun j=>(X7 s j,X7 s (j+1))
theorem z0d(s q:Nat):(Mu s q).length=s-q:=by simp [Mu]
theorem z2v(s q i:Nat)(h:q+i<s):(Mu s q)[i]?=some (X7 s (q+i),X7 s (q+i+1)):=by
 unfold Mu;rw [List.getElem?_map,List.getElem?_range' (by omega)];simp [Nat.mul_comm]
def y5n(s:Nat)(av mv:Value):Nat:=match mv with|.bool true=>s-Y1 (intOf av).toNat / Z8 s|_=>0
theorem z7w(s a:Nat):y5n s (.int .u32 a) (.bool true)=s-Y1 a / Z8 s:=by simp [y5n,intOf]
theorem z2c(s:Nat)(av:Value):y5n s av (.bool false)=0:=rfl
theorem z6w(num s:Nat)(hs:isS (s:Int)=true)(c:Nat)(hc:c<4294967296)(B1 B2:Nat)(w:World)(hE:Env w)(h1:Blk w B1 24 #[.int .u32 c])(h2:Blk w B2 171 #[.int .i64 num,.int .i64 s])(L:List Nat)(hL0:2 ∉ L)(hL1:B1 ∉ L)(hL2:B2 ∉ L) :
 Zc.Cv Sc.itT Tryz.prog 174 #[.pointer (some ⟨B1,0,none⟩),.pointer (some ⟨B2,0,none⟩)] Cy (Mu s (Y1 c / Z8 s)) L w:=by
 intro l J Jx W hW hJ hJx hY hJ0;have k1:=h1.later hW;have k2:=h2.later hW;have kE:=jY (hE.below hW);obtain ⟨d1,e1⟩:=Z5 k1;have hp:=Zp hs;have HSL:=fun a ha W=>O1 a ha s W;have HQ:∀ a,a<4294967296->Y1 a / Z8 s<s:=fun a ha=>Ms s a hs ha;have HSN:∀ a,a<4294967296->Ip a s=.tuple #[.int .i64 (X7 s (Y1 a / Z8 s):Nat),.int .i64 0]:=fun a ha=>by rw [Jh a hs,x1q s a hs ha]
 have HNX:=fun a ha W hE=>x3w a ha s hs W hE;have HNV:∀ a,a<4294967296->Fc a s=X7 s (Y1 a / Z8 s+1):=fun a ha=>v1c s a;refine callsIn_of_wp Tryz.func174 rfl trivial ?_ rfl;simp only [Tryz.ntmps174,List.size_toArray,List.length_cons,List.length_nil,Nat.reduceAdd,Nat.reduceSub,Array.replicate_succ,Array.replicate_zero,List.push_toArray,List.append_toArray,List.nil_append,List.cons_append];have HY:=jY hY;have K1:=jY k1;have K2:=jY k2;have HL:=jY (z0d s (Y1 c / Z8 s));have HR:=jY (z2v s (Y1 c / Z8 s));have hq0:=HQ c hc;have HA:=jY (show Y1 c / Z8 s=Y1 c / Z8 s+0 from rfl);clear hY k1 k2 h1 h2 hE;generalize hxs:Mu s (Y1 c / Z8 s)=xs at *;clear hxs;generalize hq:Y1 c / Z8 s=q at *;have HC:=jY hq;clear hq;gi_wp2
 gi_loopw [4,5] (fun av mv wr=>(∃ (i a:Nat),av=.int .u32 a/\a<4294967296/\mv=.bool (decide (q+i<s))/\q+i<=s/\(q+i<s->Y1 a / Z8 s=q+i)/\Blk wr B1 24 #[.int .u32 c]/\Blk wr B2 171 #[.int .i64 num,.int .i64 s]/\Env wr/\J i wr)\/(mv=.bool false/\∃ i,Jx i wr)) (fun av mv _=>y5n s av mv)
 case atStart=>exact .inl ⟨0,c,rfl,hc,by rw [decide_eq_true (show q+0<s by omega)],by omega,fun _=>HC.out,K1.out,K2.out,kE.out,hJ0⟩
 case round =>
  clear d1 e1 K1 K2 kE;obtain ⟨i,a,rfl,ha,rfl,hi,hq,q1,q2,qE,hJi⟩|⟨rfl,hJx3⟩:=hrel
  rotate_left
  ·gi_wp2
   go_end0
   exact ⟨⟨_,rfl⟩,.inr hJx3⟩
  by_cases hlt:q+i<s
  ·have hq':=hq hlt;have hsl:=HSL a ha;rw [HSN a ha,hq'] at hsl;have hnx:=fun W hE=>HNX a ha W hE;rw [HNV a ha,hq'] at hnx;have HSLA:=fun W=>jY (hsl W);have HNXA:=fun W hE=>jY (hnx W hE);have hr:=HR.out i hlt;have hm:=z7w s a;rw [hq'] at hm;have hnl:=Db s (q+i+1);have hsll:X7 s (q+i)<s:=Kq s _ hs hlt;rw [decide_eq_true hlt] at *;have e2:wr.cell? ⟨B2,1,none⟩=some (.int .i64 s):=q2.cell 1;have Q1:=jY q1;have Q2:=jY q2;have QE:=jY qE;have HM:=jY hm;have HRR:=jY hr;have HLT:=jY hlt;have HEND:Hid (q+i+1=s->X7 s (q+i+1)=0):=jY fun h=>by rw [h];exact x7j s hs
   have HPOS:Hid (q+i+1<s->X7 s (q+i+1)≠0):=jY fun h=>x7k s _ hs h (by omega);have HTN:Hid (q+i+1<s->Y1 (X7 s (q+i+1)) / Z8 s=q+i+1):=jY fun h=>z6v s _ hs h;clear hsl hnx hr hm q1 q2 qE hq hq' hlt HR HSL HNX HSN HNV HQ hi;generalize hd:X7 s (q+i+1)=d at *;generalize hv:X7 s (q+i)=v at *;clear hd hv
   gi_wp2_with fail
   refine ⟨trivial,?_⟩;refine callsIn_wide.2 (Calls.mono (HSLA _).out ?_);rintro e w2 ⟨rfl,hb2⟩;have J2:=hJ _ _ _ hJi hb2;have P1:=jY (Q1.out.later hb2);have P2:=jY (Q2.out.later hb2);have PE:=jY (QE.out.below hb2);have e3:w2.cell? ⟨B2,1,none⟩=some (.int .i64 s):=P2.out.cell 1;clear hb2 hJi e2 Q1 Q2 QE
   gi_wp2_with fail
   refine ⟨trivial,?_⟩;refine callsIn_wide.2 (Calls.mono (HNXA _ PE.out).out ?_);rintro e w3 ⟨rfl,hb3⟩;obtain ⟨fn,tmps,assign,body,hy,hRd⟩:=HY.out i _ w3 HRR.out (hJ _ _ _ J2 hb3);unfold Cy at hy;have R1:=jY (P1.out.later hb3);have R2:=jY (P2.out.later hb3);have RE:=jY (PE.out.below hb3);clear hb3 J2 P1 P2 PE e3;simp only at hy
   gi_wp2_with fail
   (try refine ⟨fun _=>by decide,?_⟩)
   refine hRd.mono ?_;rintro e W3 (⟨rfl,hJ3,hk3⟩|⟨rfl,hJx3⟩)
   ·have q1:=jY (Sc.x2u R1.out hk3 hL1);have q2:=jY (Sc.x2u R2.out hk3 hL2);have qE:=jY (show Env W3 from Sc.x2u RE.out hk3 hL0);clear hRd hy hk3
    by_cases hlast:q+i+1=s
    ·obtain rfl:=HEND.out hlast;gi_wp2;refine ⟨.inl ⟨i+1,0,rfl,by decide,by rw [decide_eq_false (show ¬ q+(i+1)<s by omega)],by omega,fun h=>by omega,q1.out,q2.out,qE.out,hJ3⟩,?_⟩;rw [HM.out,z2c]
     have:=HLT.out
     omega
    ·have hd0:=HPOS.out (by have:=HLT.out;omega);have hdi:((d:Int)==0)=false:=by simpa using hd0
     have hdn:((d:Int) != 0)=true:=by simpa using hd0
     have hdl:q+i+1<s:=by have:=HLT.out;omega
     have HD:=jY hdl;clear hlast hd0 hdl;gi_wp2;refine ⟨.inl ⟨i+1,d,rfl,hnl,by rw [decide_eq_true (show q+(i+1)<s by have:=HD.out;omega)],by have:=HD.out;omega,fun _=>HTN.out HD.out,q1.out,q2.out,qE.out,hJ3⟩,?_⟩;rw [HM.out,z7w,HTN.out HD.out]
     have:=HLT.out
     omega
   ·gi_wp2;refine ⟨.inr ⟨rfl,_,hJx3⟩,?_⟩;rw [HM.out,z2c]
    have:=HLT.out
    omega
  ·obtain rfl:i=s-q:=by omega
   rw [decide_eq_false hlt];have HL2:=HL.out;clear hlt hq hi HL HR HSL HNX HSN HNV HQ;gi_wp2
   go_end0
   exact ⟨⟨_,rfl⟩,.inl (by rw [HL2];exact hJi)⟩
def M4(x:Nat × Nat):Value:=.agg #[.int .i64 x.1,.int .i64 x.2]
def Ir(x:Nat × Nat):Array Value:=#[.int .i64 x.1,.int .i64 x.2]
def Y3(A B:Nat):Nat × Nat:=if B=0\/A<=B then (0,A) else (1,B)
def Zl(A B:Nat):Nat × Nat:=if B=0\/B<A then (0,A) else (1,B)
theorem set2{W:World}{b:Nat}{t:TypeId}{x0 x1:Value}(v0 v1:Value)(h:Blk W b t #[x0,x1]):Blk ((W.setCell ⟨b,0,none⟩ v0).setCell ⟨b,1,none⟩ v1) b t #[v0,v1]:=(h.set 0 v0).set 1 v1
theorem Yb{W:World}{b k:Nat}{t:TypeId}{c:Array Value}(v0 v1:Value)(h:Blk W k t c)(hne:k≠b):Blk ((W.setCell ⟨b,0,none⟩ v0).setCell ⟨b,1,none⟩ v1) k t c:=(h.setOther 0 v0 hne).setOther 1 v1 hne
theorem Qg{w W:World}{n b:Nat}(v0 v1:Value)(h:Below n w W)(hn:n<=b):Below n w ((W.setCell ⟨b,0,none⟩ v0).setCell ⟨b,1,none⟩ v1):=(h.setCell (p:=⟨b,0,none⟩) hn v0).setCell (p:=⟨b,1,none⟩) hn v1
def v4i(A:Nat)(S:Nat × Nat):Nat->Nat × Nat
 | 0=>(0,0)
 | 1=>(0,A)
 | _=>S
theorem z8f(A B:Nat)(hA:A<=65536)(hB:B<=65536)(hAB:A=0->B=0)(g:Nat)(w:World)(h:Blk w g 3 #[.int .i64 A,.int .i64 B]) :
 Calls Tryz.prog 100 #[.slice (some ⟨g,0,none⟩) 2 2] w fun e w'=>e=.returned (.tuple #[M4 (Y3 A B),M4 (Zl A B)])/\Bl w w':=by
 have H:=jY h;clear h
 have hcs:(A=0/\B=0/\Y3 A B=(0,A)/\Zl A B=(0,A))\/(0<A/\B=0/\Y3 A B=(0,A)/\Zl A B=(0,A))\/(0<B/\B<A/\Y3 A B=(1,B)/\Zl A B=(0,A))\/(0<A/\0<B/\A<=B/\Y3 A B=(0,A)/\Zl A B=(1,B)):=by
  unfold Y3 Zl
  by_cases h1:B=0
  ·rw [if_pos (.inl h1),if_pos (.inl h1)]
   by_cases h2:A=0
   ·exact .inl ⟨h2,h1,rfl,rfl⟩
   ·exact .inr (.inl ⟨by omega,h1,rfl,rfl⟩)
  ·by_cases h2:A<=B
   ·rw [if_pos (.inr h2),if_neg (by omega)];exact .inr (.inr (.inr ⟨by omega,by omega,h2,rfl,rfl⟩))
   ·rw [if_neg (by omega),if_pos (.inr (by omega))];exact .inr (.inr (.inl ⟨by omega,by omega,rfl,rfl⟩))
 have HCS:=jY hcs;clear hcs;generalize Y3 A B=S at *;generalize Zl A B=G at *;obtain ⟨sa,sb⟩:=S;obtain ⟨ga,gb⟩:=G;unfold M4;simp only
 go_enter Tryz.func100,Tryz.ntmps100
 go_wp2;obtain ⟨w1,hw1⟩:∃ w1,(((w.alloc (Obj.cells #[Value.int IntKind.i64 0,Value.int IntKind.i64 0] 171)).alloc (Obj.cells #[Value.int IntKind.i64 0,Value.int IntKind.i64 0] 171)).alloc (Obj.cells #[Value.int IntKind.i64 0,Value.int IntKind.i64 0] 171)).alloc (Obj.cells #[Value.int IntKind.i64 0,Value.int IntKind.i64 0] 171)=w1:=⟨_,rfl⟩;have kg:Blk w1 g 3 #[.int .i64 A,.int .i64 B]:=by rw [<- hw1];exact (((H.out.alloc (Obj.cells #[Value.int IntKind.i64 0,Value.int IntKind.i64 0] 171)).alloc (Obj.cells #[Value.int IntKind.i64 0,Value.int IntKind.i64 0] 171)).alloc (Obj.cells #[Value.int IntKind.i64 0,Value.int IntKind.i64 0] 171)).alloc (Obj.cells #[Value.int IntKind.i64 0,Value.int IntKind.i64 0] 171)
 have k0:Blk w1 w.heap.size 171 #[.int .i64 0,.int .i64 0]:=by rw [<- hw1];exact (((Blk.new w 171 #[.int .i64 0,.int .i64 0]).alloc (Obj.cells #[Value.int IntKind.i64 0,Value.int IntKind.i64 0] 171)).alloc (Obj.cells #[Value.int IntKind.i64 0,Value.int IntKind.i64 0] 171)).alloc (Obj.cells #[Value.int IntKind.i64 0,Value.int IntKind.i64 0] 171)
 have k1:Blk w1 (w.heap.size+1) 171 #[.int .i64 0,.int .i64 0]:=by
  have:=((Blk.new (w.alloc (Obj.cells #[Value.int IntKind.i64 0,Value.int IntKind.i64 0] 171)) 171 #[.int .i64 0,.int .i64 0]).alloc (Obj.cells #[Value.int IntKind.i64 0,Value.int IntKind.i64 0] 171)).alloc (Obj.cells #[Value.int IntKind.i64 0,Value.int IntKind.i64 0] 171)
  rw [hw1,World.size_alloc] at this;exact this
 have k2:Blk w1 (w.heap.size+1+1) 171 #[.int .i64 0,.int .i64 0]:=by
  have:=(Blk.new ((w.alloc (Obj.cells #[Value.int IntKind.i64 0,Value.int IntKind.i64 0] 171)).alloc (Obj.cells #[Value.int IntKind.i64 0,Value.int IntKind.i64 0] 171)) 171 #[.int .i64 0,.int .i64 0]).alloc (Obj.cells #[Value.int IntKind.i64 0,Value.int IntKind.i64 0] 171)
  rw [hw1,World.size_alloc,World.size_alloc] at this;exact this
 have k3:Blk w1 (w.heap.size+1+1+1) 171 #[.int .i64 0,.int .i64 0]:=by
  have:=Blk.new (((w.alloc (Obj.cells #[Value.int IntKind.i64 0,Value.int IntKind.i64 0] 171)).alloc (Obj.cells #[Value.int IntKind.i64 0,Value.int IntKind.i64 0] 171)).alloc (Obj.cells #[Value.int IntKind.i64 0,Value.int IntKind.i64 0] 171)) 171 #[.int .i64 0,.int .i64 0]
  rw [hw1,World.size_alloc,World.size_alloc,World.size_alloc] at this;exact this
 have hb:Bl w w1:=by rw [<- hw1];exact ((((Below.refl w.heap.size w).alloc (lAd _) (Obj.cells #[Value.int IntKind.i64 0,Value.int IntKind.i64 0] 171)).alloc (by simp;try omega) (Obj.cells #[Value.int IntKind.i64 0,Value.int IntKind.i64 0] 171)).alloc (by simp;try omega) (Obj.cells #[Value.int IntKind.i64 0,Value.int IntKind.i64 0] 171)).alloc (by simp;try omega) (Obj.cells #[Value.int IntKind.i64 0,Value.int IntKind.i64 0] 171)
 have hgl:g<w.heap.size:=H.out.lt;rw [hw1];clear hw1 H;have HR:Hid (∃ R:World->Prop,∀ W,(Blk W g 3 #[.int .i64 A,.int .i64 B]/\Blk W w.heap.size 171 #[.int .i64 0,.int .i64 0]/\Blk W (w.heap.size+1) 171 #[.int .i64 0,.int .i64 0]/\Bl w W)↔R W):=jY ⟨_,fun _=>Iff.rfl⟩;clear HR
 go_loopw [10] (fun iv wr=>∃ i:Nat,iv=.int .i64 i/\i<=2/\Blk wr g 3 #[.int .i64 A,.int .i64 B]/\Blk wr w.heap.size 171 #[.int .i64 0,.int .i64 0]/\Blk wr (w.heap.size+1) 171 #[.int .i64 0,.int .i64 0]/\Bl w wr /\
  Blk wr (w.heap.size+1+1) 171 (Ir (v4i A (sa,sb) i))/\Blk wr (w.heap.size+1+1+1) 171 (Ir (v4i A (ga,gb) i))) (fun iv _=>2-(intOf iv).toNat)
 case atStart=>exact ⟨0,rfl,by omega,kg,k0,k1,hb,k2,k3⟩
 case round =>
  clear kg k0 k1 k2 k3 hb;obtain ⟨i,rfl,hi,kg,k0,k1,hb,k2,k3⟩:=hrel;have K0:=jY k0;have K1:=jY k1;have KG:=jY kg;have HB:=jY hb;clear k0 k1 kg hb;obtain rfl|rfl|rfl:i=0\/i=1\/i=2:=by omega
  ·have c0:wr.cell? ⟨g,0,none⟩=some (.int .i64 A):=KG.out.cell 0;have c2:wr.cell? ⟨w.heap.size+1+1,1,none⟩=some (.int .i64 0):=k2.cell 1;have c3:wr.cell? ⟨w.heap.size+1+1+1,1,none⟩=some (.int .i64 0):=k3.cell 1;have K2:=jY k2;have K3:=jY k3
   by_cases hA0:A=0
   ·have hA0':(A:Int)=0:=by omega
    clear k2 k3;go_wp2;refine ⟨⟨1,rfl,by omega,KG.out,K0.out,K1.out,HB.out,?_,?_⟩,by simp [intOf]⟩
    ·have:=K2.out
     show Blk wr _ 171 #[.int .i64 0,.int .i64 A];rw [hA0'];exact this
    ·have:=K3.out
     show Blk wr _ 171 #[.int .i64 0,.int .i64 A];rw [hA0'];exact this
   ·have hA0':¬ (A:Int)=0:=by omega
    have c20:wr.cell? ⟨w.heap.size+1+1,0,none⟩=some (.int .i64 0):=k2.cell 0;have c30:wr.cell? ⟨w.heap.size+1+1+1,0,none⟩=some (.int .i64 0):=k3.cell 0;have f2:=k2.free 0;have f3:=k3.free 0;have f21:=k2.free 1;have f31:=k3.free 1;have hAp:(0:Int)<=A:=by omega
    clear k2 k3;go_wp2;refine ⟨⟨1,rfl,by omega,Yb _ _ (Yb _ _ KG.out (by omega)) (by omega),Yb _ _ (Yb _ _ K0.out (by omega)) (by omega),Yb _ _ (Yb _ _ K1.out (by omega)) (by omega),Qg _ _ (Qg _ _ HB.out (by omega)) (by omega),Yb _ _ (set2 _ _ K2.out) (by omega),set2 _ _ (Yb _ _ K3.out (by omega))⟩,by simp [intOf]⟩
  ·have c0:wr.cell? ⟨g,1,none⟩=some (.int .i64 B):=KG.out.cell 1;have c2:wr.cell? ⟨w.heap.size+1+1,1,none⟩=some (.int .i64 A):=k2.cell 1;have c3:wr.cell? ⟨w.heap.size+1+1+1,1,none⟩=some (.int .i64 A):=k3.cell 1;have c20:wr.cell? ⟨w.heap.size+1+1,0,none⟩=some (.int .i64 0):=k2.cell 0;have c30:wr.cell? ⟨w.heap.size+1+1+1,0,none⟩=some (.int .i64 0):=k3.cell 0;have f2:=k2.free 0;have f3:=k3.free 0;have f21:=k2.free 1;have f31:=k3.free 1;have K2:=jY (show Blk wr (w.heap.size+1+1) 171 #[.int .i64 0,.int .i64 A] from k2);have K3:=jY (show Blk wr (w.heap.size+1+1+1) 171 #[.int .i64 0,.int .i64 A] from k3);clear k2 k3;rcases HCS.out with ⟨q1,q2,e1,e2⟩|⟨q1,q2,e1,e2⟩|⟨q1,q2,e1,e2⟩|⟨q1,q2,q3,e1,e2⟩
   ·have q2':(B:Int)=0:=by omega
    have E1:=jY e1;have E2:=jY e2;clear q1 q2 e1 e2;go_wp2;refine ⟨⟨2,rfl,by omega,KG.out,K0.out,K1.out,HB.out,?_,?_⟩,by simp [intOf]⟩
    ·show Blk wr _ 171 (Ir (sa,sb));rw [E1.out];exact K2.out
    ·show Blk wr _ 171 (Ir (ga,gb));rw [E2.out];exact K3.out
   ·have q2':(B:Int)=0:=by omega
    have E1:=jY e1;have E2:=jY e2;clear q1 q2 e1 e2;go_wp2;refine ⟨⟨2,rfl,by omega,KG.out,K0.out,K1.out,HB.out,?_,?_⟩,by simp [intOf]⟩
    ·show Blk wr _ 171 (Ir (sa,sb));rw [E1.out];exact K2.out
    ·show Blk wr _ 171 (Ir (ga,gb));rw [E2.out];exact K3.out
   ·have q1':¬ (B:Int)=0:=by omega
    have q2':(B:Int)<A:=by omega
    have q3':¬ (A:Int)=0:=by omega
    have q4':¬ (A:Int)<=B:=by omega
    have E1:=jY e1;have E2:=jY e2;clear q1 q2 e1 e2;go_wp2;refine ⟨⟨2,rfl,by omega,Yb _ _ KG.out (by omega),Yb _ _ K0.out (by omega),Yb _ _ K1.out (by omega),Qg _ _ HB.out (by omega),?_,?_⟩,by simp [intOf]⟩
    ·show Blk _ _ 171 (Ir (sa,sb));rw [E1.out];exact set2 _ _ K2.out
    ·show Blk _ _ 171 (Ir (ga,gb));rw [E2.out];exact Yb _ _ K3.out (by omega)
   ·have q1':¬ (B:Int)=0:=by omega
    have q2':¬ (B:Int)<A:=by omega
    have q3':¬ (A:Int)=0:=by omega
    have q4':(A:Int)<=B:=by omega
    have E1:=jY e1;have E2:=jY e2;clear q1 q2 q3 e1 e2;go_wp2;refine ⟨⟨2,rfl,by omega,Yb _ _ KG.out (by omega),Yb _ _ K0.out (by omega),Yb _ _ K1.out (by omega),Qg _ _ HB.out (by omega),?_,?_⟩,by simp [intOf]⟩
    ·show Blk _ _ 171 (Ir (sa,sb));rw [E1.out];exact Yb _ _ K2.out (by omega)
    ·show Blk _ _ 171 (Ir (ga,gb));rw [E2.out];exact set2 _ _ K3.out
  ·have k2':Blk wr (w.heap.size+1+1) 171 #[.int .i64 sa,.int .i64 sb]:=k2;have k3':Blk wr (w.heap.size+1+1+1) 171 #[.int .i64 ga,.int .i64 gb]:=k3;have hb2:=jY (fun (a b c d:Value)=>Qg a b (Qg c d HB.out (show w.heap.size<=w.heap.size from lAd _)) (show w.heap.size<=w.heap.size+1 by omega));clear k2 k3 HCS;have c0:=K0.out.cell 0;have c1:=K0.out.cell 1;have d0:=K1.out.cell 0;have d1:=K1.out.cell 1;have s0:=k2'.cell 0;have s1:=k2'.cell 1;have g0:=k3'.cell 0;have g1:=k3'.cell 1;have f0:=K0.out.free 0;have f1:=K0.out.free 1;have f2:=K1.out.free 0;have f3:=K1.out.free 1;simp at c0 c1 d0 d1 s0 s1 g0 g1;clear k2' k3';go_wp2
   go_region
   go_wp2;have kR0:=(Yb (.int .i64 ga) (.int .i64 gb) (set2 (.int .i64 sa) (.int .i64 sb) K0.out) (show w.heap.size≠w.heap.size+1 by omega)).drew;have kR1:=(set2 (.int .i64 ga) (.int .i64 gb) (Yb (.int .i64 sa) (.int .i64 sb) K1.out (show w.heap.size+1≠w.heap.size by omega))).drew;have hbR:=(hb2.out (.int .i64 ga) (.int .i64 gb) (.int .i64 sa) (.int .i64 sb)).drew;generalize ((((wr.setCell { block:=w.heap.size,off:=0 } (Value.int IntKind.i64 ↑sa)).setCell { block:=w.heap.size,off:=1 } (Value.int IntKind.i64 ↑sb)).setCell { block:=w.heap.size+1,off:=0 } (Value.int IntKind.i64 ↑ga)).setCell { block:=w.heap.size+1,off:=1 } (Value.int IntKind.i64 ↑gb)).drew=wz at *;have r0:=kR0.cell 0;have r1:=kR0.cell 1;have r2:=kR1.cell 0;have r3:=kR1.cell 1;simp at r0 r1 r2 r3;clear c0 c1 d0 d1 s0 s1 g0 g1 f0 f1 f2 f3 hb2;refine bodyPost_ret (v:=.tuple #[.agg #[.int .i64 sa,.int .i64 sb],.agg #[.int .i64 ga,.int .i64 gb]]) (w:=wz) (by simp [results,Tryz.results100,go_sem,r0,r1,r2,r3]) rfl ?_;exact ⟨rfl,hbR⟩
theorem A3(x:Nat × Nat)(h0:0<x.2)(h1:x.2<=65536)(w:World):Calls Tryz.prog 102 #[M4 x] w fun e w'=>e=.returned (.int .u32 (x.2-1:Nat))/\Bl w w':=by
 obtain ⟨a,s⟩:=x;unfold M4;simp only at h0 h1 ⊢;have h2:((s-1:Nat):Int)=(s:Int)-1:=by omega
 have hb:=(Below.refl w.heap.size w).alloc (lAd _) (Obj.cells #[.int .i64 a,.int .i64 s] 171);rw [h2]
 go_enter Tryz.func102,Tryz.ntmps102
 go_wp2;go_ret;exact ⟨rfl,hb⟩
end Go.Proofs.YtcklcmafohlflaaGreatDoor.Dc.Dt
namespace Go.Proofs
open Go.Shelf
def Tryz.lays190_ren:Go.Shelf.Ren:=⟨fun|190=>202|125=>76|258=>222|128=>112|129=>113|302=>228|303=>229|304=>230|305=>231|306=>232|307=>233|308=>234|309=>235|310=>236|333=>237|329=>238|330=>239|334=>240|335=>241|336=>242|344=>243|n=>n,fun|31=>40|9=>9|3=>3|46=>68|0=>0|51=>24|53=>181|4=>4|183=>337|182=>336|131=>122|5=>5|218=>342|222=>235|228=>345|229=>285|n=>n,fun|n=>n⟩
theorem Tryz.lays190:Go.Proofs.Lays.n190 Tryz.prog Tryz.lays190_ren:={
 mixed:=by kernel_rfl
 f125:=Tryz.func76.trans (congrArg some (by kernel_rfl))
 f128:=Tryz.func112.trans (congrArg some (by kernel_rfl))
 f129:=Tryz.func113.trans (congrArg some (by kernel_rfl))
 f190:=Tryz.func202.trans (congrArg some (by kernel_rfl))
 f258:=Tryz.func222.trans (congrArg some (by kernel_rfl))
 f302:=Tryz.func228.trans (congrArg some (by kernel_rfl))
 f303:=Tryz.func229.trans (congrArg some (by kernel_rfl))
 f304:=Tryz.func230.trans (congrArg some (by kernel_rfl))
 f305:=Tryz.func231.trans (congrArg some (by kernel_rfl))
 f306:=Tryz.func232.trans (congrArg some (by kernel_rfl))
 f307:=Tryz.func233.trans (congrArg some (by kernel_rfl))
 f308:=Tryz.func234.trans (congrArg some (by kernel_rfl))
 f309:=Tryz.func235.trans (congrArg some (by kernel_rfl))
 f310:=Tryz.func236.trans (congrArg some (by kernel_rfl))
 f329:=Tryz.func238.trans (congrArg some (by kernel_rfl))
 f330:=Tryz.func239.trans (congrArg some (by kernel_rfl))
 f333:=Tryz.func237.trans (congrArg some (by kernel_rfl))
 f334:=Tryz.func240.trans (congrArg some (by kernel_rfl))
 f335:=Tryz.func241.trans (congrArg some (by kernel_rfl))
 f336:=Tryz.func242.trans (congrArg some (by kernel_rfl))
 f344:=Tryz.func243.trans (congrArg some (by kernel_rfl))
 t0:=Tryz.underlying0
 a0:=Tryz.isAgg0
 z0:=Tryz.sizeOf0
 v0:=Tryz.zeroValue0
 t3:=Tryz.underlying3
 a3:=Tryz.isAgg3
 z3:=Tryz.sizeOf3
 v3:=Tryz.zeroValue3
 t4:=Tryz.underlying4
 a4:=Tryz.isAgg4
 z4:=Tryz.sizeOf4
 v4:=Tryz.zeroValue4
 t5:=Tryz.underlying5
 a5:=Tryz.isAgg5
 z5:=Tryz.sizeOf5
 v5:=Tryz.zeroValue5
 t9:=Tryz.underlying9
 a9:=Tryz.isAgg9
 z9:=Tryz.sizeOf9
 v9:=Tryz.zeroValue9
 t31:=Tryz.underlying40
 a31:=Tryz.isAgg40
 z31:=Tryz.sizeOf40
 v31:=Tryz.zeroValue40
 t46:=Tryz.underlying68
 a46:=Tryz.isAgg68
 z46:=Tryz.sizeOf68
 v46:=Tryz.zeroValue68
 t51:=Tryz.underlying24
 a51:=Tryz.isAgg24
 z51:=Tryz.sizeOf24
 v51:=Tryz.zeroValue24
 t53:=Tryz.underlying181
 a53:=Tryz.isAgg181
 z53:=Tryz.sizeOf181
 v53:=Tryz.zeroValue181
 t131:=Tryz.underlying122
 a131:=Tryz.isAgg122
 z131:=Tryz.sizeOf122
 v131:=Tryz.zeroValue122
 t182:=Tryz.underlying336
 a182:=Tryz.isAgg336
 z182:=Tryz.sizeOf336
 v182:=Tryz.zeroValue336
 t183:=Tryz.underlying337
 a183:=Tryz.isAgg337
 z183:=Tryz.sizeOf337
 v183:=Tryz.zeroValue337
 t218:=Tryz.underlying342
 a218:=Tryz.isAgg342
 z218:=Tryz.sizeOf342
 v218:=Tryz.zeroValue342
 t222:=Tryz.underlying235
 a222:=Tryz.isAgg235
 z222:=Tryz.sizeOf235
 v222:=Tryz.zeroValue235
 t228:=Tryz.underlying345
 a228:=Tryz.isAgg345
 z228:=Tryz.sizeOf345
 v228:=Tryz.zeroValue345
 t229:=Tryz.underlying285
 a229:=Tryz.isAgg285
 z229:=Tryz.sizeOf285
 v229:=Tryz.zeroValue285 }
open Go.Sort Go.RowKit in
theorem Tryz.slices_Sort_string(blk off cap:Nat)(ss:List (List UInt8))(w:World)(hH:Holds encStr w blk off ss.toArray)(hblk:blk<w.heap.size)(hsz:ss.length<4611686018427387904) :
 Calls Tryz.prog 202 #[.slice (some ⟨blk,off,none⟩) ss.length cap] w fun e w' =>
  e=.returned (.tuple #[])/\∃ n os,w'=Sort.grow (putRow encStr (Sort.ahead w n) blk off (ss.mergeSort fun x y=>decide (x<=y)).toArray) os:=Any.slices_Sort_string Tryz.lays190 blk off cap ss w hH hblk hsz
def Tryz.laysGg6_ren:Go.Shelf.Ren:=⟨fun|6=>46|10=>73|11=>74|12=>75|13=>76|14=>77|24=>112|25=>113|26=>114|27=>115|28=>116|29=>117|30=>118|31=>119|32=>120|33=>121|34=>151|35=>152|36=>153|37=>154|38=>155|39=>177|n=>n,fun|20=>20|26=>89|35=>138|0=>0|37=>140|3=>3|41=>68|44=>145|49=>24|51=>181|4=>4|54=>184|53=>183|58=>122|5=>5|9=>9|60=>231|64=>235|66=>284|67=>285|17=>17|32=>135|33=>136|82=>358|12=>12|75=>353|76=>201|77=>354|78=>254|79=>355|80=>356|n=>n,fun|n=>n⟩
theorem Tryz.laysGg6:Go.Proofs.LaysGg.n6 Tryz.prog Tryz.laysGg6_ren:={
 mixed:=by kernel_rfl
 f6:=Tryz.func46.trans (congrArg some (by kernel_rfl))
 f10:=Tryz.func73.trans (congrArg some (by kernel_rfl))
 f11:=Tryz.func74.trans (congrArg some (by kernel_rfl))
 f12:=Tryz.func75.trans (congrArg some (by kernel_rfl))
 f13:=Tryz.func76.trans (congrArg some (by kernel_rfl))
 f14:=Tryz.func77.trans (congrArg some (by kernel_rfl))
 f24:=Tryz.func112.trans (congrArg some (by kernel_rfl))
 f25:=Tryz.func113.trans (congrArg some (by kernel_rfl))
 f26:=Tryz.func114.trans (congrArg some (by kernel_rfl))
 f27:=Tryz.func115.trans (congrArg some (by kernel_rfl))
 f28:=Tryz.func116.trans (congrArg some (by kernel_rfl))
 f29:=Tryz.func117.trans (congrArg some (by kernel_rfl))
 f30:=Tryz.func118.trans (congrArg some (by kernel_rfl))
 f31:=Tryz.func119.trans (congrArg some (by kernel_rfl))
 f32:=Tryz.func120.trans (congrArg some (by kernel_rfl))
 f33:=Tryz.func121.trans (congrArg some (by kernel_rfl))
 f34:=Tryz.func151.trans (congrArg some (by kernel_rfl))
 f35:=Tryz.func152.trans (congrArg some (by kernel_rfl))
 f36:=Tryz.func153.trans (congrArg some (by kernel_rfl))
 f37:=Tryz.func154.trans (congrArg some (by kernel_rfl))
 f38:=Tryz.func155.trans (congrArg some (by kernel_rfl))
 f39:=Tryz.func177.trans (congrArg some (by kernel_rfl))
 t0:=Tryz.underlying0
 a0:=Tryz.isAgg0
 z0:=Tryz.sizeOf0
 v0:=Tryz.zeroValue0
 i0:=by kernel_rfl
 t3:=Tryz.underlying3
 a3:=Tryz.isAgg3
 z3:=Tryz.sizeOf3
 v3:=Tryz.zeroValue3
 i3:=by kernel_rfl
 t4:=Tryz.underlying4
 a4:=Tryz.isAgg4
 z4:=Tryz.sizeOf4
 v4:=Tryz.zeroValue4
 i4:=by kernel_rfl
 t5:=Tryz.underlying5
 a5:=Tryz.isAgg5
 z5:=Tryz.sizeOf5
 v5:=Tryz.zeroValue5
 i5:=by kernel_rfl
 t9:=Tryz.underlying9
 a9:=Tryz.isAgg9
 z9:=Tryz.sizeOf9
 v9:=Tryz.zeroValue9
 i9:=by kernel_rfl
 t12:=Tryz.underlying12
 a12:=Tryz.isAgg12
 z12:=Tryz.sizeOf12
 v12:=Tryz.zeroValue12
 i12:=by kernel_rfl
 t17:=Tryz.underlying17
 a17:=Tryz.isAgg17
 z17:=Tryz.sizeOf17
 v17:=Tryz.zeroValue17
 i17:=by kernel_rfl
 t20:=Tryz.underlying20
 a20:=Tryz.isAgg20
 z20:=Tryz.sizeOf20
 v20:=Tryz.zeroValue20
 i20:=by kernel_rfl
 t26:=Tryz.underlying89
 a26:=Tryz.isAgg89
 z26:=Tryz.sizeOf89
 v26:=Tryz.zeroValue89
 i26:=by kernel_rfl
 t32:=Tryz.underlying135
 a32:=Tryz.isAgg135
 z32:=Tryz.sizeOf135
 v32:=Tryz.zeroValue135
 i32:=by kernel_rfl
 t33:=Tryz.underlying136
 a33:=Tryz.isAgg136
 z33:=Tryz.sizeOf136
 v33:=Tryz.zeroValue136
 i33:=by kernel_rfl
 t35:=Tryz.underlying138
 a35:=Tryz.isAgg138
 z35:=Tryz.sizeOf138
 v35:=Tryz.zeroValue138
 i35:=by kernel_rfl
 t37:=Tryz.underlying140
 a37:=Tryz.isAgg140
 z37:=Tryz.sizeOf140
 v37:=Tryz.zeroValue140
 i37:=by kernel_rfl
 t41:=Tryz.underlying68
 a41:=Tryz.isAgg68
 z41:=Tryz.sizeOf68
 v41:=Tryz.zeroValue68
 i41:=by kernel_rfl
 t44:=Tryz.underlying145
 a44:=Tryz.isAgg145
 z44:=Tryz.sizeOf145
 v44:=Tryz.zeroValue145
 i44:=by kernel_rfl
 t49:=Tryz.underlying24
 a49:=Tryz.isAgg24
 z49:=Tryz.sizeOf24
 v49:=Tryz.zeroValue24
 i49:=by kernel_rfl
 t51:=Tryz.underlying181
 a51:=Tryz.isAgg181
 z51:=Tryz.sizeOf181
 v51:=Tryz.zeroValue181
 i51:=by kernel_rfl
 t53:=Tryz.underlying183
 a53:=Tryz.isAgg183
 z53:=Tryz.sizeOf183
 v53:=Tryz.zeroValue183
 i53:=by kernel_rfl
 t54:=Tryz.underlying184
 a54:=Tryz.isAgg184
 z54:=Tryz.sizeOf184
 v54:=Tryz.zeroValue184
 i54:=by kernel_rfl
 t58:=Tryz.underlying122
 a58:=Tryz.isAgg122
 z58:=Tryz.sizeOf122
 v58:=Tryz.zeroValue122
 i58:=by kernel_rfl
 t60:=Tryz.underlying231
 a60:=Tryz.isAgg231
 z60:=Tryz.sizeOf231
 v60:=Tryz.zeroValue231
 i60:=by kernel_rfl
 t64:=Tryz.underlying235
 a64:=Tryz.isAgg235
 z64:=Tryz.sizeOf235
 v64:=Tryz.zeroValue235
 i64:=by kernel_rfl
 t66:=Tryz.underlying284
 a66:=Tryz.isAgg284
 z66:=Tryz.sizeOf284
 v66:=Tryz.zeroValue284
 i66:=by kernel_rfl
 t67:=Tryz.underlying285
 a67:=Tryz.isAgg285
 z67:=Tryz.sizeOf285
 v67:=Tryz.zeroValue285
 i67:=by kernel_rfl
 t75:=Tryz.underlying353
 a75:=Tryz.isAgg353
 z75:=Tryz.sizeOf353
 v75:=Tryz.zeroValue353
 i75:=by kernel_rfl
 t76:=Tryz.underlying201
 a76:=Tryz.isAgg201
 z76:=Tryz.sizeOf201
 v76:=Tryz.zeroValue201
 i76:=by kernel_rfl
 t77:=Tryz.underlying354
 a77:=Tryz.isAgg354
 z77:=Tryz.sizeOf354
 v77:=Tryz.zeroValue354
 i77:=by kernel_rfl
 t78:=Tryz.underlying254
 a78:=Tryz.isAgg254
 z78:=Tryz.sizeOf254
 v78:=Tryz.zeroValue254
 i78:=by kernel_rfl
 t79:=Tryz.underlying355
 a79:=Tryz.isAgg355
 z79:=Tryz.sizeOf355
 v79:=Tryz.zeroValue355
 i79:=by kernel_rfl
 t80:=Tryz.underlying356
 a80:=Tryz.isAgg356
 z80:=Tryz.sizeOf356
 v80:=Tryz.zeroValue356
 i80:=by kernel_rfl
 t82:=Tryz.underlying358
 a82:=Tryz.isAgg358
 z82:=Tryz.sizeOf358
 v82:=Tryz.zeroValue358
 i82:=by kernel_rfl }
open Go.RowKit Go.Sort in
theorem Tryz.slices_Sort_string_none(p:Option Addr)(cap:Nat)(w:World) :
 Calls Tryz.prog 202 #[.slice p 0 cap] w fun e w'=>e=.returned (.tuple #[])/\w'=w:=Any.slices_Sort_string_none Tryz.lays190 p cap w
end Go.Proofs

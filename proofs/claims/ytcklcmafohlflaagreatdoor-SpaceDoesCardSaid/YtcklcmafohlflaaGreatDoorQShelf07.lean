/- Texts of one kind in one: Shelf, DcOps, DcSet, DcMap, DcLike. -/
import Derived.Shelf.Strconv.Clone
import Derived.Test.YtcklcmafohlflaaGreatDoorQDcFind06
set_option maxRecDepth 200000
set_option maxHeartbeats 8000000
namespace Go.Proofs
open Go.Shelf
def Tryz.laysM316_ren:Go.Shelf.Ren:=⟨fun|316=>133|n=>n,fun|9=>9|3=>3|4=>4|37=>253|0=>0|127=>254|5=>5|n=>n,fun|n=>n⟩
theorem Tryz.laysM316:Go.Proofs.LaysM.n316 Tryz.prog Tryz.laysM316_ren:={
 mixed:=by kernel_rfl
 f316:=Tryz.func133.trans (congrArg some (by kernel_rfl))
 t0:=Tryz.underlying0
 a0:=Tryz.isAgg0
 z0:=Tryz.sizeOf0
 v0:=Tryz.zeroValue0
 t3:=Tryz.underlying3
 a3:=Tryz.isAgg3
 z3:=Tryz.sizeOf3
 v3:=Tryz.zeroValue3
 t4:=Tryz.underlying4
 a4:=Tryz.isAgg4
 z4:=Tryz.sizeOf4
 v4:=Tryz.zeroValue4
 t9:=Tryz.underlying9
 a9:=Tryz.isAgg9
 z9:=Tryz.sizeOf9
 v9:=Tryz.zeroValue9
 t37:=Tryz.underlying253
 a37:=Tryz.isAgg253
 z37:=Tryz.sizeOf253
 v37:=Tryz.zeroValue253
 t127:=Tryz.underlying254
 a127:=Tryz.isAgg254
 z127:=Tryz.sizeOf254
 v127:=Tryz.zeroValue254
 t5:=Tryz.underlying5
 a5:=Tryz.isAgg5
 z5:=Tryz.sizeOf5
 v5:=Tryz.zeroValue5
 i0:=by kernel_rfl
 i3:=by kernel_rfl
 i4:=by kernel_rfl
 i5:=by kernel_rfl
 i9:=by kernel_rfl
 i37:=by kernel_rfl
 i127:=by kernel_rfl }
open Go.RowKit in
theorem Tryz.stringslite_Clone(s:ByteArray)(w:World)(hlim:s.size<=281474976710656) :
 Calls Tryz.prog 133 #[.string s] w fun e w'=>e=.returned (.string s)/\Below w.heap.size w w':=Any.stringslite_Clone Tryz.laysM316 s w hlim
end Go.Proofs
namespace Go.Proofs.YtcklcmafohlflaaGreatDoor.Dc
open Zc
open Go.RowKit Go.Shelf
attribute [local go_sem] Oper.semAt_some
def Ja(s:Nat)(key:ByteArray)(r:List Nd):Option Nat:=r.findIdx? (Nd.is s key)
def Dc.hit(D:Dc)(s:Nat)(key:ByteArray):Option (Nat × Nat) :=
 match Ja s key (D.a.getD (s % D.a.length) []) with
 | some i=>some (0,i)
 | none=>if D.b=[] then none else match Ja s key (D.b.getD (s % D.b.length) []) with
   | some i=>some (1,i)
   | none=>none
theorem Co{s:Nat}{key:ByteArray}{r:List Nd}{i:Nat}(h:Ja s key r=some i):∃ x,r[i]?=some x/\Nd.is s key x=true/\∀ q y,q<i->r[q]?=some y->Nd.is s key y=false:=by
 obtain ⟨hi,h1,h2⟩:=List.findIdx?_eq_some_iff_getElem.1 h;refine ⟨r[i],lAa hi,h1,fun q y hq hy=>?_⟩;obtain ⟨hq2,rfl⟩:=lAb.1 hy
 simpa using h2 q hq
theorem Jb{s:Nat}{key:ByteArray}{r:List Nd}(h:Ja s key r=none):∀ x∈r,Nd.is s key x=false:=by
 intro x hx
 have:=List.findIdx?_eq_none_iff.1 h x hx
 simpa using this
theorem Qs{D:Dc}{s:Nat}{key:ByteArray}{j i:Nat}(h:D.hit s key=some (j,i)):Hit D s key j i:=by
 unfold Dc.hit at h
 cases h0:Ja s key (D.a.getD (s % D.a.length) []) with
 | some i0 =>
   rw [h0] at h;simp at h;obtain ⟨rfl,rfl⟩:=h;obtain ⟨x,h1,h2,h3⟩:=Co h0;exact ⟨_,x,rfl,h1,h2,h3,fun j r hj=>absurd hj (Nat.not_lt_zero _)⟩
 | none =>
   rw [h0] at h;simp only at h
   by_cases hb:D.b=[]
   ·rw [if_pos hb] at h;cases h
   ·rw [if_neg hb] at h
    cases h1:Ja s key (D.b.getD (s % D.b.length) []) with
    | none=>rw [h1] at h;cases h
    | some i1 =>
      rw [h1] at h;simp at h;obtain ⟨rfl,rfl⟩:=h;obtain ⟨x,h2,h3,h4⟩:=Co h1;refine ⟨_,x,by unfold Dc.rowsOf;rw [if_neg hb];rfl,h2,h3,h4,fun j r hj hr=>?_⟩;obtain rfl:j=0:=by omega
      have:r=D.a.getD (s % D.a.length) []:=by unfold Dc.rowsOf at hr;simpa using hr.symm
      rw [this];exact Jb h0
theorem hit_none{D:Dc}{s:Nat}{key:ByteArray}(h:D.hit s key=none):y4u D s key 2:=by
 unfold Dc.hit at h
 cases h0:Ja s key (D.a.getD (s % D.a.length) []) with
 | some i0=>rw [h0] at h;cases h
 | none =>
   rw [h0] at h;simp only at h;intro j r hj hr;unfold Dc.rowsOf at hr
   match j,hr with
   | 0,hr=>simp at hr;subst hr;exact Jb (by simpa using h0)
   | 1,hr =>
     by_cases hb:D.b=[]
     ·rw [if_pos hb] at hr;simp at hr
     ·rw [if_neg hb] at hr h;simp at hr;subst hr
      cases h1:Ja s key (D.b.getD (s % D.b.length) []) with
      | none=>exact Jb (by simpa using h1)
      | some i1=>rw [h1] at h;cases h
def Dc.node(D:Dc)(s:Nat)(key:ByteArray):Option Nd :=
 match D.hit s key with
 | some (j,i)=>((D.rowsOf s).getD j [])[i]?
 | none=>none
theorem Mo{D:Dc}{s:Nat}{key:ByteArray}{j i:Nat}(h:D.hit s key=some (j,i)):∃ r y,(D.rowsOf s)[j]?=some r/\r[i]?=some y/\D.node s key=some y:=by
 obtain ⟨r,x,h1,h2,h3,_⟩:=Qs h;refine ⟨r,x,h1,h2,?_⟩;unfold Dc.node;rw [h];simp only;rw [List.getD_eq_getElem?_getD,h1];exact h2
def Dc.add(D:Dc)(x:Nd):Dc:=if D.b=[] then { D with a:=Vs D.a x,n:=D.n+1 } else { D with b:=Vs D.b x,n:=D.n+1 }
def Dc.setS(D:Dc)(s:Nat)(key:ByteArray)(v:Value):Dc :=
 match (D.step 1).hit s key with
 | some (j,i)=>(D.step 1).upd s j (Mw i v)
 | none=>((D.step 1).grown).add ⟨s,key,v⟩
def Dc.less(D:Dc):Dc:={ D with n:=D.n-1 }
def Dc.delS(D:Dc)(s:Nat)(key:ByteArray):Dc :=
 match (D.step 1).hit s key with
 | some (j,i)=>(((D.step 1).upd s j (·.eraseIdx i)).less).shrunk
 | none=>D.step 1
def F2:Option Nd->Value
 | some y=>y.v
 | none=>.int .i64 0
section
variable {S:Nat->Prop} {p seed:Nat} {D:Dc} {w:World}
theorem I4{s j:Nat}{r:List Nd}{y:Nd}{i:Nat}(h1:(D.rowsOf s)[j]?=some r)(h2:r[i]?=some y){T:Ty}(ok:D.Ok T):y.fine T/\(∀ x∈r,x.fine T):=by
 have hm:=lAc h1
 have hf:∀ x∈r,x.fine T:=by
  unfold Dc.rowsOf at hm;rcases List.mem_cons.1 hm with rfl|h3
  ·intro x hx;obtain ⟨r0,h4,h5⟩:=Gx hx;exact ok.fine r0 (.inl h4) x h5
  ·by_cases hb:D.b=[]
   ·rw [if_pos hb] at h3;simp at h3
   ·rw [if_neg hb,lAg] at h3;subst h3;intro x hx;obtain ⟨r0,h4,h5⟩:=Gx hx;exact ok.fine r0 (.inr h4) x h5
 exact ⟨hf y (lAc h2),hf⟩
theorem Gy(hsd:seed<4294967296)(h:Rep tyI w p S seed D)(ok:D.Ok tyI)(hn:D.n<=1000000)(key:ByteArray)(hk:key.size<=281474976710656) :
 Calls Tryz.prog 303 #[.pointer (some ⟨p,0,none⟩),.string key] w fun e w' =>
  e=.returned (.tuple #[F2 ((D.step 1).node (Zq seed key.data.toList) key),.bool ((D.step 1).hit (Zq seed key.data.toList) key).isSome])/\Went tyI S w p seed (D.step 1) w':=by
 have hb0:Bl w (w.alloc (Obj.cells #[.int .i64 0] 2)):=(Below.refl _ _).alloc (lAd _) _;have k0:=Blk.new w 2 #[.int .i64 0];have hw:=h.later hb0;obtain ⟨ok1,hn1⟩:=Qj ok 1
 cases hh:(D.step 1).hit (Zq seed key.data.toList) key with
 | none =>
   have hnd:(D.step 1).node (Zq seed key.data.toList) key=none:=by unfold Dc.node;rw [hh]
   have hF:=Yq hsd hw ok hn key hk 309 #[.pointer (some ⟨w.heap.size,0,none⟩)] none (fun j i h=>by cases h) (fun _=>hit_none hh) (fun _=>False) (fun j i h=>by cases h);have HF:=jY hF;have HK:=jY k0;have HN:=jY hnd;have HC:=jY hw.cells;clear hF hh k0 hnd;have hmf:∀ (fn:Fn) (first cap:Array Value) (w:World),(Instr.makeFunc fn first cap).run Tryz.prog w=.ok (.func fn first cap) w:=fun _ _ _ _=>rfl
   go_enter Tryz.func303,Tryz.ntmps303
   go_wp2_with fail;refine HF.out.mono ?_;rintro e w1 ⟨rfl,hw1,_⟩;have hq:=(hw1 trivial).blk HK.out HC.out (by decide);obtain ⟨c0,d0⟩:=Z5 hq;have HW:=jY (hw1 trivial);clear hw1 hq;go_wp2;go_ret2;rw [HN.out];exact ⟨rfl,Went.since hb0 HW.out⟩
 | some ji =>
   obtain ⟨j,i⟩:=ji;obtain ⟨r,y,h1,h2,h3⟩:=Mo hh;obtain ⟨⟨_,nv,hnv⟩,hfr⟩:=I4 h1 h2 ok1
   have hrl:r.length<=1000000:=by
    have h4:=V6 (D:=D.step 1) _ j r h1;have h5:=ok1.n;omega
   have hF:=Yq hsd hw ok hn key hk 309 #[.pointer (some ⟨w.heap.size,0,none⟩)] (some (j,i)) (fun j' i' h=>by cases h;exact Qs hh) (fun h=>by cases h) (Got S p seed (D.step 1) (w.alloc (Obj.cells #[.int .i64 0] 2)) w.heap.size nv)
    (fun j' i' h=>by cases h;exact Ac ok1 hw.cells h1 h2 hrl w.heap.size nv hnv _ k0)
   have HF:=jY hF;have HN:=jY h3;have HV:=jY hnv;clear hF hh k0 h3 hnv h1 h2 hfr;have hmf:∀ (fn:Fn) (first cap:Array Value) (w:World),(Instr.makeFunc fn first cap).run Tryz.prog w=.ok (.func fn first cap) w:=fun _ _ _ _=>rfl
   go_enter Tryz.func303,Tryz.ntmps303
   go_wp2_with fail;refine HF.out.mono ?_;rintro e w1 ⟨rfl,_,hw1⟩;obtain ⟨g1,g2,g3⟩:=hw1 rfl;obtain ⟨c0,d0⟩:=Z5 g3;have G1:=jY g1;have G2:=jY g2;clear hw1 g1 g2 g3;go_wp2;go_ret2;rw [HN.out];refine ⟨by simp only [F2];rw [HV.out];rfl,G1.out.wide (fun k hk=>⟨?_,hk.2⟩) (fun _ hk=>hk.2),(Far.of_below hb0).trans G2.out fun k hk=>?_⟩
   ·rcases hk.1 with h1|h1
    ·exact .inl h1
    ·exact .inr (lAe hb0.size h1)
   ·rcases hk with h1|h1
    ·exact .inl h1
    ·exact .inr (by omega)
theorem z0o{W:World}(h:Went tyI S w p seed D W)(m:Nat):Went tyI S w p seed { D with n:=m } (W.setCell ⟨p,4,none⟩ (.int .i64 m)):=by
 obtain ⟨g0,g1,A1,va,vb,hm,hf,hc⟩:=h.1;have f:Far (fun k=>k=p) W (W.setCell ⟨p,4,none⟩ (.int .i64 m)):=(Far.refl _ _).set _ _ (.inl rfl);refine Went.mk' (g0:=g0) (g1:=g1) (A1:=A1) (va:=va) (vb:=vb) ⟨?_,hm.ta.past Kl f hm.dict,?_,hm.sep⟩ (h.2.trans f fun k hk=>by subst hk;exact hf.p.1) hf.p.1 hf.g0.1 (fun h=>(hf.g1 h).1) (fun v hv k hk=>(hf.row v hv k hk).1)
 ·have:=hm.dict.set 4 (.int .i64 m)
  simpa using this
 ·rcases hm.tb with h1|⟨h1,h2,h3,h4⟩
  ·exact .inl h1
  ·exact .inr ⟨h1,h2,h3,h4.past Kl f hm.dict⟩
theorem Qp{W:World}(h:Went tyI S w p seed D W):W.cell? ⟨p,4,none⟩=some (.int .i64 D.n)/\W.frozen? ⟨p,4,none⟩=false:=by
 obtain ⟨g0,g1,A1,va,vb,hm,hf,hc⟩:=h.1;exact ⟨hm.dict.cell 4,hm.dict.free 4⟩
theorem x3t{s j i:Nat}{r:List Nd}{y:Nd}(ok:D.Ok tyI)(h1:(D.rowsOf s)[j]?=some r)(h2:r[i]?=some y):0<D.n:=by
 have h3:=V6 s j r h1;have h4:=(lAb.1 h2).1;have h5:=ok.n;omega
theorem z3v(hsd:seed<4294967296)(h:Rep tyI w p S seed D)(ok:D.Ok tyI)(hn:D.n<=1000000)(key:ByteArray)(hk:key.size<=281474976710656) :
 Calls Tryz.prog 299 #[.pointer (some ⟨p,0,none⟩),.string key] w fun e w' =>
  e=.returned (.bool ((D.step 1).hit (Zq seed key.data.toList) key).isSome)/\Went tyI S w p seed (D.delS (Zq seed key.data.toList) key) w':=by
 obtain ⟨ok1,hn1⟩:=Qj ok 1
 cases hh:(D.step 1).hit (Zq seed key.data.toList) key with
 | none =>
   have hd:D.delS (Zq seed key.data.toList) key=D.step 1:=by unfold Dc.delS;rw [hh]
   rw [hd];have hF:=Yq hsd h ok hn key hk 305 #[] none (fun j i h=>by cases h) (fun _=>hit_none hh) (fun _=>False) (fun j i h=>by cases h);have HF:=jY hF;clear hF hh hd
   go_enter Tryz.func299,Tryz.ntmps299
   go_wp2_with fail;refine HF.out.mono ?_;rintro e w1 ⟨rfl,hw1,_⟩;have HW:=jY (hw1 trivial);clear hw1;go_wp2;go_ret;exact ⟨rfl,HW.out⟩
 | some ji =>
   obtain ⟨j,i⟩:=ji;have hd:D.delS (Zq seed key.data.toList) key=(((D.step 1).upd (Zq seed key.data.toList) j (·.eraseIdx i)).less).shrunk:=by unfold Dc.delS;rw [hh]
   rw [hd];obtain ⟨r,y,h1,h2,h3⟩:=Mo hh;obtain ⟨_,hfr⟩:=I4 h1 h2 ok1
   have hrl:r.length<=1000000:=by
    have h4:=V6 (D:=D.step 1) _ j r h1;have h5:=ok1.n;omega
   have hnp:=x3t ok1 h1 h2;have hun:((D.step 1).upd (Zq seed key.data.toList) j (·.eraseIdx i)).n=(D.step 1).n:=by unfold Dc.upd;split <;> rfl
   have hF:=Yq hsd h ok hn key hk 305 #[] (some (j,i)) (fun j' i' h=>by cases h;exact Qs hh) (fun h=>by cases h) (fun W'=>Went tyI S w p seed ((D.step 1).upd (Zq seed key.data.toList) j (·.eraseIdx i)) W')
    (fun j' i' h=>by cases h;exact Bz ok1 h1 h2 hrl (fun x hx=>y5r (hfr x hx).2))
   have HF:=jY hF;generalize (D.step 1).upd (Zq seed key.data.toList) j (·.eraseIdx i)=D2 at *;have hn2:0<D2.n/\D2.n<=1000000:=by omega
   have hcast:(((D2.n-1:Nat):Int))=(D2.n:Int)-1:=by omega
   clear hF hh h3 h1 h2 hfr hun hd
   go_enter Tryz.func299,Tryz.ntmps299
   go_wp2_with fail;refine HF.out.mono ?_;rintro e w1 ⟨rfl,_,hw1⟩;have hW:=hw1 rfl;obtain ⟨c0,d0⟩:=Qp hW;have hless:=z0o hW (D2.n-1);rw [hcast] at hless;have hsh:=Gj (D:=D2.less) hless.1 (by show D2.n-1<=1000000;omega);have HSH:=jY hsh;have HL:=jY hless;have hnn:(1:Int)<=D2.n:=by omega
   have hnn2:(D2.n:Int)<=1000000:=by omega
   clear hW hw1 hless hsh hcast;go_wp2_with fail;refine HSH.out.mono ?_;rintro e w2 ⟨rfl,hw2⟩;have HW2:=jY (HL.out.trans hw2);clear hw2;go_wp2;go_ret;exact ⟨rfl,HW2.out⟩
end
section
variable {S:Nat->Prop} {p seed:Nat} {D:Dc} {w:World}
theorem z5c{W:World}{g g':Nat}{vs us:List Value}{rows rows':List (List Nd)}(h:TabAt tyI W g vs rows)(h':TabAt tyI W g' us rows')(hg:g≠g')(hs:∀ v∈vs,∀ u∈us,∀ k,v.ownBlock=some k->u.ownBlock≠some k):∀ k,U4 g vs k->¬ U4 g' us k:=by
 rintro k (rfl|⟨v,hv,hk⟩) (h2|⟨u,hu,hk2⟩)
 ·exact hg h2
 ·obtain ⟨r,hr⟩:=h'.mem hu;obtain ⟨c,hc⟩:=hr.blk hk2;exact absurd (h.blk.ty hc) (by decide)
 ·subst h2;obtain ⟨r,hr⟩:=h.mem hv;obtain ⟨c,hc⟩:=hr.blk hk;exact absurd (h'.blk.ty hc) (by decide)
 ·exact hs v hv u hu k hk hk2
theorem J4{W:World}{g:Nat}{vs:List Value}{rows:List (List Nd)}{c:Array Value}(h:TabAt tyI W g vs rows)(hp:Blk W p tyI.d c):¬ U4 g vs p:=by
 rintro (rfl|⟨v,hv,hk⟩)
 ·exact absurd (hp.ty h.blk) (by decide)
 ·obtain ⟨r,hr⟩:=h.mem hv;obtain ⟨c,hc⟩:=hr.blk hk;exact absurd (hp.ty hc) (by decide)
theorem Jp{W W1 W':World}{g0 g1:Nat}{A1:Option Addr}{va vb:List Value}(hm:Mem tyI W p g0 g1 A1 va vb seed D)(hf:Foot (V3 tyI S w W) p g0 g1 va vb D)(hF:Far S w W)(hb1:Bl W W1)(x:Nd)
 (hP:PutI W1 (if D.b=[] then g0 else g1) (if D.b=[] then va else vb) (if D.b=[] then D.a else D.b) [x] 1 W') :
 Went tyI S w p seed (if D.b=[] then { D with a:=Vs D.a x } else { D with b:=Vs D.b x }) W':=by
 obtain ⟨vs',hT,hS,hI,hFP⟩:=hP;have hm1:=hm.later hb1
 by_cases hb:D.b=[]
 ·simp only [hb,if_true] at hT hI hFP ⊢
  have hvb:vb=[]:=by
   rcases hm.tb with ⟨_,h,_⟩|⟨h,_⟩
   ·exact h
   ·exact absurd hb h
  have hA:A1=none:=by
   rcases hm.tb with ⟨_,_,h⟩|⟨h,_⟩
   ·exact h
   ·exact absurd hb h
  subst hvb hA;refine Went.mk' (g0:=g0) (g1:=g1) (A1:=none) (va:=vs') (vb:=[]) ⟨?_,hT,.inl ⟨rfl,rfl,rfl⟩,by rw [List.append_nil];exact hS⟩ (((hF.then_below hb1).trans hFP fun k hk=>?_)) hf.p.1 hf.g0.1 (fun h=>absurd rfl h) fun v hv k hk=>?_
  ·have:=hFP.blk hm1.dict (J4 hm1.ta hm1.dict)
   simp only [hb] at this
   simpa [hb,Yz] using this
  ·rcases hk with rfl|⟨v,hv,hk⟩
   ·exact hf.g0.1
   ·exact (hf.row v (List.mem_append_left _ hv) k hk).1
  ·rw [List.append_nil] at hv;rcases hI v hv k hk with ⟨u0,h1,h2⟩|h1
   ·exact (hf.row u0 (List.mem_append_left _ h1) k h2).1
   ·exact .inr (lAe hF.size (lAe hb1.size h1))
 ·simp only [hb,if_false] at hT hI hFP ⊢;rcases hm1.tb with ⟨h,_⟩|⟨_,hA,hg,htb⟩
  ·exact absurd h hb
  have hne:Vs D.b x≠[]:=fun e=>hb (List.eq_nil_of_length_eq_zero (by have:=congrArg List.length e;rw [Yz] at this;simpa using this));have hsa:=fun v (hv:v∈va) u (hu:u∈vb) k hk=>Sep.apart hm.sep hv hu (k:=k) hk;refine Went.mk' (g0:=g0) (g1:=g1) (A1:=A1) (va:=va) (vb:=vs') ⟨?_,hm1.ta.far hFP (z5c hm1.ta htb (fun e=>hg e.symm) hsa),.inr ⟨hne,hA,hg,hT⟩,?_⟩ (((hF.then_below hb1).trans hFP fun k hk=>?_)) hf.p.1 hf.g0.1 (fun _=>(hf.g1 hb).1) fun v hv k hk=>?_
  ·have:=hFP.blk hm1.dict (J4 htb hm1.dict)
   simpa [Yz] using this
  ·refine hm.sep.left.join hS fun v hv u hu k hk hk2=>?_;rcases hI u hu k hk2 with ⟨u0,h1,h2⟩|h1
   ·exact hsa v hv u0 h1 k hk h2
   ·obtain ⟨r,hr⟩:=hm1.ta.mem hv
    have:=hr.lt hk
    omega
  ·rcases hk with rfl|⟨v,hv,hk⟩
   ·exact (hf.g1 hb).1
   ·exact (hf.row v (List.mem_append_right _ hv) k hk).1
  ·rcases List.mem_append.1 hv with h|h
   ·exact (hf.row v (List.mem_append_left _ h) k hk).1
   ·rcases hI v h k hk with ⟨u0,h1,h2⟩|h1
    ·exact (hf.row u0 (List.mem_append_right _ h1) k h2).1
    ·exact .inr (lAe hF.size (lAe hb1.size h1))
theorem Ot(s:ByteArray)(hs:s.size<=281474976710656)(w:World):Calls Tryz.prog 85 #[.string s] w fun e w'=>e=.returned (.string s)/\Bl w w':=by
 have HC:=jY (Tryz.stringslite_Clone s w hs)
 go_enter Tryz.func85,Tryz.ntmps85
 go_wp2_with fail;refine HC.out.mono ?_;rintro e w1 ⟨rfl,hb1⟩;go_wp2;go_ret;exact ⟨rfl,hb1⟩
theorem Ae{T:Ty}(ok:D.Ok T):D.grown.Ok T/\D.grown.n=D.n:=by
 unfold Dc.grown
 split
 ·rename_i h;have hz:D.b=[]:=h.1;have h0:(List.replicate (Zu (2*D.n:Nat)) ([]:List Nd)).flatten=[]:=by simp
  refine ⟨⟨ok.a,fun _=>by simp [Dc.begin];exact Pq _,fun _=>?_,fun e=>?_,fun i hi=>?_,?_,fun r hr x hx=>?_⟩,rfl⟩
  ·show D.place<D.a.length;rw [ok.still hz]
   have:=Zp ok.a
   omega
  ·have h1:=Zp (Pq (2*D.n:Nat))
   have h2:(List.replicate (Zu (2*D.n:Nat)) ([]:List Nd)).length=0:=by
    rw [show List.replicate (Zu (2*D.n:Nat)) ([]:List Nd)=[] from e];rfl
   rw [List.length_replicate] at h2;omega
  ·have hi':i<D.place:=hi;rw [ok.still hz] at hi';omega
  ·have:=ok.n
   rw [hz] at this;show D.n=D.a.flatten.length+(List.replicate (Zu (2*D.n:Nat)) ([]:List Nd)).flatten.length;rw [h0]
   simpa using this
  ·rcases hr with hr|hr
   ·exact ok.fine r (.inl hr) x hx
   ·rw [List.eq_of_mem_replicate hr] at hx;simp at hx
 ·exact ⟨ok,rfl⟩
def Dc.ins(D:Dc)(x:Nd):Dc:=if D.b=[] then { D with a:=Vs D.a x } else { D with b:=Vs D.b x }
theorem v0i(D:Dc)(x:Nd):(D.ins x).n=D.n:=by unfold Dc.ins;split <;> rfl
theorem y5l(D:Dc)(x:Nd):{ D.ins x with n:=D.n+1 }=D.add x:=by unfold Dc.ins Dc.add;split <;> rfl
theorem y3d{w2:World}(h2:Went tyI S w p seed D w2)(ok:D.Ok tyI)(hn:D.n+1<=1000000)(x:Nd)(hx:x.fine tyI) :
 ∃ tv:Value,(∃ A n,tv=.slice A n n)/\(∀ W,Bl w2 W->Hid (Calls Tryz.prog 189 #[.pointer (some ⟨p,0,none⟩)] W fun e w'=>e=.returned tv/\w'=W)) /\
  (∀ W,Bl w2 W->Hid (Calls Tryz.prog 190 #[tv,.slice (some ⟨W.heap.size,0,none⟩) 1 1] (W.alloc (.cells x.cells.toArray 300)) fun e W'=>e=.returned (.tuple #[])/\Went tyI S w p seed (D.ins x) W')):=by
 obtain ⟨g0,g1,A1,va,vb,hm,hf,hc⟩:=h2.1;refine ⟨if D.b=[] then .slice (some ⟨g0,0,none⟩) D.a.length D.a.length else .slice A1 D.b.length D.b.length,?_,fun W hW=>?_,fun W hW=>?_⟩
 ·split
  ·exact ⟨_,_,rfl⟩
  ·exact ⟨_,_,rfl⟩
 ·have hN:=G9 (S:=V3 tyI S w w2) (hm.later hW) hf (fun k hk=>(hc k hk).same (hW.block k (hc k hk).lt))
  have e:(bif D.moving then Value.slice A1 D.b.length D.b.length else .slice (some ⟨g0,0,none⟩) D.a.length D.a.length)=(if D.b=[] then .slice (some ⟨g0,0,none⟩) D.a.length D.a.length else .slice A1 D.b.length D.b.length):=by
   cases hmv:D.moving with
   | false=>rw [if_pos ((Yt D).1 hmv)];rfl
   | true=>rw [if_neg (x7g hmv)];rfl
  rw [e] at hN;exact jY hN
 ·have hb1:Bl w2 (W.alloc (.cells x.cells.toArray 300)):=hW.alloc hW.size _;have hm1:=hm.later hb1
  have hrow:RowAt tyI (W.alloc (.cells x.cells.toArray 300)) (.slice (some ⟨W.heap.size,0,none⟩) 1 1) [x]:=by
   have:=World.ownsRow_lit (base:=0) (e:=300) (size:=3) W x.cells.toArray 1 (Nat.zero_le _) (by unfold maxLen;omega) rfl
   simpa [RowAt,Xs,tyI] using this
  have hfl:=ok.n
  by_cases hb:D.b=[]
  ·have hP:=Mt g0 va D.a _ [x] _ hm1.ta hm1.sep.left ok.a hrow (fun u hu k hk h=>by
    obtain ⟨r,hr⟩:=hm.ta.mem hu;have h1:=hr.lt hk;have h2:=hW.size;simp [Value.ownBlock] at h
    omega) (fun y hy=>by simp at hy;subst hy;exact hx) (by simp only [List.length_singleton];omega)
   refine jY ?_;rw [if_pos hb];refine hP.mono fun e W' ⟨he,hPI⟩=>⟨he,?_⟩;exact Jp hm hf h2.2 hb1 x (by simpa only [hb,if_true,List.length_singleton] using hPI)
  ·rcases hm1.tb with ⟨h,_⟩|⟨_,hA,hg,htb⟩
   ·exact absurd h hb
   have hP:=Mt g1 vb D.b _ [x] _ htb hm1.sep.right (ok.b hb) hrow (fun u hu k hk h=>by
    rcases hm.tb with ⟨h5,_⟩|⟨_,_,_,htb0⟩
    ·exact absurd h5 hb
    obtain ⟨r,hr⟩:=htb0.mem hu;have h1:=hr.lt hk;have h2:=hW.size;simp [Value.ownBlock] at h
    omega) (fun y hy=>by simp at hy;subst hy;exact hx) (by simp only [List.length_singleton];omega)
   refine jY ?_;rw [if_neg hb,hA];refine hP.mono fun e W' ⟨he,hPI⟩=>⟨he,?_⟩;exact Jp hm hf h2.2 hb1 x (by simpa only [hb,if_false,List.length_singleton] using hPI)
theorem Ia(hsd:seed<4294967296)(h:Rep tyI w p S seed D)(ok:D.Ok tyI)(hn:D.n+1<=1000000)(key:ByteArray)(hk:key.size<=281474976710656)(nv:Int) :
 Calls Tryz.prog 167 #[.pointer (some ⟨p,0,none⟩),.string key,.int .i64 nv] w fun e w' =>
  e=.returned (.bool (!((D.step 1).hit (Zq seed key.data.toList) key).isSome))/\Went tyI S w p seed (D.setS (Zq seed key.data.toList) key (.int .i64 nv)) w':=by
 have hb0:Bl w (w.alloc (Obj.cells #[.int .i64 nv] 2)):=(Below.refl _ _).alloc (lAd _) _;have k0:=Blk.new w 2 #[.int .i64 nv];have hw:=h.later hb0;obtain ⟨ok1,hn1⟩:=Qj ok 1;have hmf:∀ (fn:Fn) (first cap:Array Value) (w:World),(Instr.makeFunc fn first cap).run Tryz.prog w=.ok (.func fn first cap) w:=fun _ _ _ _=>rfl;have hsl:=Of seed key.data.toList
 cases hh:(D.step 1).hit (Zq seed key.data.toList) key with
 | some ji =>
   obtain ⟨j,i⟩:=ji;have hd:D.setS (Zq seed key.data.toList) key (.int .i64 nv)=(D.step 1).upd (Zq seed key.data.toList) j (Mw i (.int .i64 nv)):=by unfold Dc.setS;rw [hh]
   rw [hd];obtain ⟨r,y,h1,h2,h3⟩:=Mo hh
   have hrl:r.length<=1000000:=by
    have h4:=V6 (D:=D.step 1) _ j r h1;have h5:=ok1.n;omega
   have hF:=Yq hsd hw ok (by omega) key hk 187 #[.pointer (some ⟨w.heap.size,0,none⟩)] (some (j,i)) (fun j' i' h=>by cases h;exact Qs hh) (fun h=>by cases h) (fun W'=>Went tyI S (w.alloc (Obj.cells #[.int .i64 nv] 2)) p seed ((D.step 1).upd (Zq seed key.data.toList) j (Mw i (.int .i64 nv))) W')
    (fun j' i' h=>by cases h;exact z0h ok1 hw.cells h1 h2 hrl w.heap.size nv k0)
   have HF:=jY hF;clear hF hh k0 h3 h1 h2 hd
   go_enter Tryz.func167,Tryz.ntmps167
   go_wp2_with fail;refine HF.out.mono ?_;rintro e w1 ⟨rfl,_,hw1⟩;have HW:=jY (hw1 rfl);clear hw1;go_wp2;go_ret;exact ⟨rfl,Went.since hb0 HW.out⟩
 | none =>
   have hd:D.setS (Zq seed key.data.toList) key (.int .i64 nv)=((D.step 1).grown).add ⟨Zq seed key.data.toList,key,.int .i64 nv⟩:=by unfold Dc.setS;rw [hh]
   rw [hd];obtain ⟨ok2,hn2⟩:=Ae ok1;have hF:=Yq hsd hw ok (by omega) key hk 187 #[.pointer (some ⟨w.heap.size,0,none⟩)] none (fun j i h=>by cases h) (fun _=>hit_none hh) (fun _=>False) (fun j i h=>by cases h);have HF:=jY hF;have HK:=jY k0;have HC:=jY hw.cells;clear hF hh k0 hd;have HNM:=fun W (hR:Rep tyI W p (V3 tyI S (w.alloc (Obj.cells #[.int .i64 nv] 2)) W) seed (D.step 1).grown)=>jY (Vw hsd hR key hk);generalize Zq seed key.data.toList=s at *
   go_enter Tryz.func167,Tryz.ntmps167
   go_wp2_with fail;refine HF.out.mono ?_;rintro e w1 ⟨rfl,hw1,_⟩;have hW1:=hw1 trivial;have hG:=Ad hW1.1 (by omega);have HW1:=jY hW1;have HG:=jY hG;clear hw1 hW1 hG;go_wp2_with fail;refine HG.out.mono ?_;rintro e w2 ⟨rfl,hw2⟩;have hW2:=HW1.out.trans hw2;obtain ⟨tv,⟨At,nt,rfl⟩,HNEW,HPUT⟩:=y3d hW2 ok2 (by omega) ⟨s,key,.int .i64 nv⟩ ⟨hsl,nv,rfl⟩;have hvb:=hW2.blk HK.out HC.out (by decide);have HVB:=jY hvb;have B0:Bl w2 w2.drew:=(Below.refl _ _).drew;have HW2:=jY hW2;obtain ⟨v0,v1⟩:=Z5 hvb;have HCL:=fun W=>jY (Ot key hk W);clear hw2 hW2 hvb;unfold Nd.cells at HPUT;go_wp2
   go_region_law (go_simp;first
    | (go_at_call 85;refine (HCL _).out.mono ?_;rintro e w3 ⟨rfl,hb3⟩;have B3:Bl w2 w3:=Dv hb3;obtain ⟨v3,x3⟩:=Z5 (HVB.out.later B3))
    | (go_at_call 191;refine (HNM _ (HW2.out.later B3).1).out.mono ?_;rintro e w4 ⟨rfl,hb4⟩;have B4:Bl w2 w4:=B3.trans (hb4.mono B3.size);obtain ⟨v4,x4⟩:=Z5 (HVB.out.later B4))
    | (go_at_call 189;refine (HNEW _ (by first|exact B0|exact B3|exact B4|exact B4.alloc B4.size _)).out.mono ?_;rintro e w5 ⟨rfl,rfl⟩)
    | (go_at_call 190;refine (HPUT _ B4).out.mono ?_;rintro e w6 ⟨rfl,hW6⟩))
   all_goals (
    obtain ⟨q0,q1⟩:=Qp hW6;rw [v0i] at q0;have hN:=z0o hW6 ((D.step 1).grown.n+1);rw [y5l] at hN;have HN:=jY hN;have hb1:((D.step 1).grown.n:Int)+1<=1000000:=by omega
    clear hN hW6;go_wp2;go_ret;refine ⟨rfl,Went.since hb0 ?_⟩
    have:=HN.out
    rwa [show (((D.step 1).grown.n+1:Nat):Int)=(D.n:Int)+1 by omega] at this)
def Du:Dc:=⟨List.replicate 4 [],[],0,0⟩
theorem x8u(T:Ty):Du.Ok T:=⟨by decide +kernel,fun h=>absurd rfl h,fun h=>absurd rfl h,fun _=>rfl,fun i hi=>absurd hi (Nat.not_lt_zero _),rfl,fun r hr x hx=>by
 rcases hr with hr|hr
 ·rw [List.eq_of_mem_replicate hr] at hx;simp at hx
 ·simp [Du] at hr⟩
def fresh(T:Ty)(w W:World)(k:Nat):Prop:=V3 T (fun _=>False) w W k
theorem Uv(sd:Nat)(w:World):Calls Tryz.prog 141 #[.int .u32 sd] w fun e w'=>∃ q,e=.returned (.pointer (some ⟨q,0,none⟩))/\Rep tyI w' q (fresh tyI w w') sd Du/\Bl w w':=by
 obtain ⟨i0,hi0,hz0,hz1,hz2⟩:=info_parts F0;have hmk:=fun W=>run_make (P:=Tryz.prog) W 267 301 i0 _ Tryz.underlying267 hi0 hz0 .i64 .i64 4 4 (by omega) (Int.le_refl _) (by rw [hz2];omega) (by omega);rw [hz1] at hmk;simp only [Int.reduceToNat,Nat.mul_one] at hmk
 go_enter Tryz.func141,Tryz.ntmps141
 go_wp2;go_returns;refine ⟨_,rfl,?_,((Below.refl _ _).alloc (lAd _) _).alloc (by simp) _⟩;have h1:=(Blk.new w 301 (madeCells #[Value.slice none 0 0] 4)).alloc (Obj.cells #[Value.slice (some { block:=w.heap.size,off:=0 }) 4 4,Value.slice none 0 0,Value.int IntKind.u32 ↑sd,Value.int IntKind.i64 0,Value.int IntKind.i64 0] 270);have h2:=Blk.new (w.alloc (Obj.cells (madeCells #[Value.slice none 0 0] 4) 301)) 270 #[Value.slice (some { block:=w.heap.size,off:=0 }) 4 4,Value.slice none 0 0,Value.int IntKind.u32 ↑sd,Value.int IntKind.i64 0,Value.int IntKind.i64 0];rw [World.size_alloc] at h2
 have hmc:madeCells #[Value.slice none 0 0] 4=(List.replicate 4 (Value.slice none 0 0)).toArray:=by
  rw [<- toList_madeCells_one]
 have hW:=Went.mk' (T:=tyI) (S:=fun _=>False) (W:=w) (g0:=w.heap.size) (g1:=0) (A1:=none) (va:=List.replicate 4 (.slice none 0 0)) (vb:=[]) (D:=Du) (seed:=sd) ⟨h2,⟨by rw [<- hmc];exact h1,rfl,fun i v r hv hr=>?_⟩,.inl ⟨rfl,rfl,rfl⟩,?_⟩
  (Far.of_below (((Below.refl _ _).alloc (lAd _) _).alloc (by simp) _)) (.inr (by simp)) (.inr (lAd _)) (fun h=>absurd rfl h) (fun v hv k hk=>?_)
 ·exact hW.1
 ·obtain ⟨hi,rfl⟩:=lAb.1 hv;obtain ⟨hi2,rfl⟩:=lAb.1 hr;simp only [Du,List.getElem_replicate];exact RowAt.nil _ _
 ·refine Sep.none fun v hv=>?_;rw [List.append_nil] at hv;rw [List.eq_of_mem_replicate hv];rfl
 ·rw [List.append_nil] at hv;rw [List.eq_of_mem_replicate hv] at hk;simp [Value.ownBlock] at hk
end
end Go.Proofs.YtcklcmafohlflaaGreatDoor.Dc
namespace Go.Proofs.YtcklcmafohlflaaGreatDoor.Dc
open Zc
open Go.RowKit Go.Shelf
def Dc.nodes(D:Dc):List Nd:=D.a.flatten++D.b.flatten
structure Inv (T:Ty) (seed:Nat) (D:Dc):Prop where
 ok:D.Ok T
 sum:∀ x∈D.nodes,x.sum=Zq seed x.key.data.toList
 pa:∀ (i:Nat) r,D.a[i]?=some r->∀ x∈r,x.sum % D.a.length=i
 pb:∀ (i:Nat) r,D.b[i]?=some r->∀ x∈r,x.sum % D.b.length=i
 uniq:(D.nodes.map Nd.key).Nodup
theorem Fq(rows:List (List Nd)):∀ (i:Nat) (r':List Nd),i<rows.length->(rows.set i r').flatten.Perm (r'++(rows.set i []).flatten):=by
 induction rows with
 | nil=>intro i r' h;simp at h
 | cons y rows ih =>
   intro i r' h
   cases i with
   | zero=>simp
   | succ i =>
     have:=ih i r' (by simpa using h)
     simp only [List.set_cons_succ,List.flatten_cons];refine (this.append_left y).trans ?_;rw [<- List.append_assoc,<- List.append_assoc];exact List.perm_append_comm.append_right _
theorem I9(rows:List (List Nd))(i:Nat)(h:i<rows.length):rows.flatten.Perm (rows.getD i []++(rows.set i []).flatten):=by
 have:=Fq rows i (rows.getD i []) h
 rwa [show rows.set i (rows.getD i [])=rows by
  rw [List.getD_eq_getElem?_getD,lAa h]
  exact List.set_getElem_self h] at this
theorem C4(rows:List (List Nd))(x:Nd)(h:0<rows.length):(Vs rows x).flatten.Perm (x :: rows.flatten):=by
 have hlt:x.sum % rows.length<rows.length:=Nat.mod_lt _ h;unfold Vs;refine (Fq rows _ _ hlt).trans ?_;refine List.Perm.trans ?_ ((I9 rows _ hlt).symm.cons x);rw [List.append_assoc];exact List.perm_middle
theorem y8r(xs:List Nd):∀ rows:List (List Nd),0<rows.length->(Xe rows xs).flatten.Perm (xs++rows.flatten):=by
 induction xs with
 | nil=>intro rows _;exact List.Perm.refl _
 | cons x xs ih =>
   intro rows h;refine (ih (Vs rows x) (by rw [Yz];exact h)).trans ?_;refine ((C4 rows x h).append_left xs).trans ?_;exact List.perm_middle
theorem J7(rows:List (List Nd))(x:Nd)(hp:∀ (i:Nat) r,rows[i]?=some r->∀ y∈r,y.sum % rows.length=i):∀ (i:Nat) r,(Vs rows x)[i]?=some r->∀ y∈r,y.sum % (Vs rows x).length=i:=by
 intro i r hr y hy;rw [Yz];unfold Vs at hr;rw [List.getElem?_set] at hr
 split at hr
 ·rename_i e
  split at hr
  ·cases hr
   rcases List.mem_append.1 hy with h|h
   ·rw [List.getD_eq_getElem?_getD] at h
    cases hg:rows[x.sum % rows.length]? with
    | none=>rw [hg] at h;simp at h
    | some r0=>rw [hg] at h;rw [<- e];exact hp _ r0 hg y h
   ·simp at h;subst h;exact e
  ·cases hr
 ·exact hp i r hr y hy
theorem Cm(xs:List Nd):∀ rows:List (List Nd),(∀ (i:Nat) r,rows[i]?=some r->∀ y∈r,y.sum % rows.length=i)->∀ (i:Nat) r,(Xe rows xs)[i]?=some r->∀ y∈r,y.sum % (Xe rows xs).length=i:=by
 induction xs with
 | nil=>intro rows h;exact h
 | cons x xs ih=>intro rows h;exact ih (Vs rows x) (J7 rows x h)
theorem y7z(rows:List (List Nd))(h:∀ i,i<rows.length->rows.getD i []=[]):rows.flatten=[]:=List.eq_nil_of_length_eq_zero (Gw rows h)
section
variable {T:Ty} {seed:Nat} {D:Dc}
theorem Ap(ok:D.Ok T)(hb:D.b≠[]):D.move1.nodes.Perm D.nodes:=by
 have hp:=ok.place hb;have hbl:=Zp (ok.b hb);have h1:=y8r (D.a.getD D.place []) D.b (by omega);have h2:=I9 D.a D.place hp;unfold Dc.move1 Dc.nodes
 split
 ·rename_i hl
  have h0:(D.a.set D.place []).flatten=[]:=y7z _ fun i hi=>by
   rw [List.length_set] at hi
   by_cases e:i=D.place
   ·subst e;exact Mk _ _
   ·rw [O8 _ _ _ _ e];exact ok.past i (by omega)
  rw [h0,List.append_nil] at h2;simp only [List.flatten_nil,List.append_nil];exact h1.trans (h2.symm.append_right _)
 ·show ((D.a.set D.place []).flatten++(Xe D.b (D.a.getD D.place [])).flatten).Perm (D.a.flatten++D.b.flatten);refine (h1.append_left _).trans ?_;rw [<- List.append_assoc];exact (List.perm_append_comm.trans h2.symm).append_right _
theorem Inv.of_perm{D':Dc}(h:Inv T seed D)(hp:D'.nodes.Perm D.nodes)(ok:D'.Ok T)(pa:∀ (i:Nat) r,D'.a[i]?=some r->∀ x∈r,x.sum % D'.a.length=i)(pb:∀ (i:Nat) r,D'.b[i]?=some r->∀ x∈r,x.sum % D'.b.length=i):Inv T seed D' :=
 ⟨ok,fun x hx=>h.sum x (hp.mem_iff.1 hx),pa,pb,(hp.map Nd.key).nodup_iff.2 h.uniq⟩
theorem Inv.move1(h:Inv T seed D)(hb:D.b≠[]):Inv T seed D.move1:=by
 refine h.of_perm (Ap h.ok hb) (h.ok.move1 hb) ?_ ?_
 ·unfold Dc.move1
  split
  ·exact Cm _ _ h.pb
  ·intro i r hr x hx;simp only [List.length_set];simp only [List.getElem?_set] at hr
   split at hr
   ·split at hr
    ·cases hr;simp at hx
    ·cases hr
   ·exact h.pa i r hr x hx
 ·unfold Dc.move1
  split
  ·intro i r hr;simp at hr
  ·exact Cm _ _ h.pb
theorem Inv.run(h:Inv T seed D):∀ k,k<=D.left->Inv T seed (Dc.run k D)/\(Dc.run k D).nodes.Perm D.nodes:=by
 intro k
 induction k with
 | zero=>intro _;exact ⟨h,List.Perm.refl _⟩
 | succ k ih =>
   intro hk;obtain ⟨h1,h2⟩:=ih (by omega);obtain ⟨_,_,_,h3⟩:=Pe h.ok k (by omega);obtain ⟨h4,_⟩:=h3 (by omega);exact ⟨h1.move1 h4,(Ap h1.ok h4).trans h2⟩
theorem Inv.step(h:Inv T seed D)(n:Nat):Inv T seed (D.step n)/\(D.step n).nodes.Perm D.nodes:=h.run _ (Nat.min_le_right _ _)
theorem Kn(hb:D.b=[])(m:Nat):(D.begin m).nodes=D.nodes:=by
 unfold Dc.nodes Dc.begin;rw [hb];simp
theorem z7q:D.grown.nodes=D.nodes:=by
 unfold Dc.grown
 split
 ·rename_i h;exact Kn h.1 _
 ·rfl
theorem z6d:D.shrunk.nodes=D.nodes:=by
 unfold Dc.shrunk
 split
 ·rename_i h;exact Kn h.1 _
 ·rfl
theorem x1n(m:Nat):∀ (i:Nat) r,(D.begin m).b[i]?=some r->∀ x∈r,x.sum % (D.begin m).b.length=i:=by
 intro i r hr x hx;rw [List.eq_of_mem_replicate (lAc hr)] at hx;simp at hx
theorem x1m(ok:D.Ok T)(hb:D.b=[])(m:Nat):(D.begin m).Ok T:=by
 have h1:=Zp (Pq (m:Nat))
 have hne:(D.begin m).b≠[]:=fun e=>by
  have h2:(List.replicate (Zu m) ([]:List Nd)).length=0:=by
   rw [show List.replicate (Zu m) ([]:List Nd)=[] from e];rfl
  rw [List.length_replicate] at h2;omega
 have hs:=ok.still hb;refine ⟨ok.a,fun _=>by simp [Dc.begin];exact Pq _,fun _=>?_,fun e=>absurd e hne,fun i hi=>?_,?_,fun r hr x hx=>?_⟩
 ·show D.place<D.a.length
  have:=Zp ok.a
  omega
 ·have hi':i<D.place:=hi;omega
 ·have:=ok.n
  rw [hb] at this;show D.n=D.a.flatten.length+(List.replicate (Zu m) ([]:List Nd)).flatten.length
  simpa using this
 ·rcases hr with hr|hr
  ·exact ok.fine r (.inl hr) x hx
  ·rw [List.eq_of_mem_replicate hr] at hx;simp at hx
theorem Inv.begin(h:Inv T seed D)(hb:D.b=[])(m:Nat):Inv T seed (D.begin m) :=
 h.of_perm (by rw [Kn hb]) (x1m h.ok hb m) h.pa (x1n m)
theorem Inv.grown(h:Inv T seed D):Inv T seed D.grown:=by
 unfold Dc.grown
 split
 ·rename_i e;exact h.begin e.1 _
 ·exact h
theorem Inv.shrunk(h:Inv T seed D):Inv T seed D.shrunk:=by
 unfold Dc.shrunk
 split
 ·rename_i e;exact h.begin e.1 _
 ·exact h
theorem Inv.in_rows(h:Inv T seed D){x:Nd}(hx:x∈D.nodes):∃ j r,j<2/\(D.rowsOf x.sum)[j]?=some r/\x∈r:=by
 rcases List.mem_append.1 hx with h1|h1
 ·obtain ⟨r,hr,hx⟩:=List.mem_flatten.1 h1;obtain ⟨i,hi⟩:=List.getElem?_of_mem hr
  have:=h.pa i r hi x hx
  refine ⟨0,r,by omega,?_,hx⟩;unfold Dc.rowsOf;rw [this,List.getD_eq_getElem?_getD,hi];rfl
 ·obtain ⟨r,hr,hx⟩:=List.mem_flatten.1 h1;obtain ⟨i,hi⟩:=List.getElem?_of_mem hr
  have:=h.pb i r hi x hx
  have hb:D.b≠[]:=fun e=>by rw [e] at hr;simp at hr
  refine ⟨1,r,by omega,?_,hx⟩;unfold Dc.rowsOf;rw [if_neg hb,this];show some (D.b.getD i [])=some r;rw [List.getD_eq_getElem?_getD,hi];rfl
theorem y3q{s j:Nat}{r:List Nd}(hr:(D.rowsOf s)[j]?=some r){x:Nd}(hx:x∈r):x∈D.nodes:=by
 have hm:=lAc hr;unfold Dc.rowsOf at hm
 have key:∀ (rows:List (List Nd)) i,x∈rows.getD i []->x∈rows.flatten:=fun rows i h=>by
  obtain ⟨r0,h1,h2⟩:=Gx h;exact List.mem_flatten.2 ⟨r0,h1,h2⟩
 rcases List.mem_cons.1 hm with rfl|h1
 ·exact List.mem_append_left _ (key _ _ hx)
 ·by_cases hb:D.b=[]
  ·rw [if_pos hb] at h1;simp at h1
  ·rw [if_neg hb,lAg] at h1;subst h1;exact List.mem_append_right _ (key _ _ hx)
theorem x2q{s:Nat}{key:ByteArray}{x:Nd}:Nd.is s key x=true↔x.sum=s/\x.key=key:=by unfold Nd.is;simp
theorem Inv.hit_none(h:Inv T seed D){key:ByteArray}(hh:D.hit (Zq seed key.data.toList) key=none):∀ x∈D.nodes,x.key≠key:=by
 intro x hx e;obtain ⟨j,r,hj,hr,hxr⟩:=h.in_rows hx;have hs:=h.sum x hx;rw [e] at hs;rw [hs] at hr;have h1:=Go.Proofs.YtcklcmafohlflaaGreatDoor.Dc.hit_none hh j r hj hr x hxr;have h2:Nd.is (Zq seed key.data.toList) key x=true:=x2q.2 ⟨hs,e⟩;rw [h2] at h1
 cases h1
theorem Ag{key:ByteArray}{s j i:Nat}(hh:D.hit s key=some (j,i)):∃ r y,(D.rowsOf s)[j]?=some r/\r[i]?=some y/\D.node s key=some y/\y∈D.nodes/\y.key=key/\y.sum=s:=by
 obtain ⟨r,y,h1,h2,h3⟩:=Mo hh;obtain ⟨r',y',h4,h5,h6,_⟩:=Qs hh;rw [h1] at h4
 cases h4
 rw [h2] at h5
 cases h5
 obtain ⟨h7,h8⟩:=x2q.1 h6;exact ⟨r,y,h1,h2,h3,y3q h1 (lAc h2),h8,h7⟩
theorem x6t(D:Dc)(s j:Nat)(f:List Nd->List Nd):(D.upd s j f).n=D.n:=by unfold Dc.upd;split <;> rfl
theorem z0i(rows:List (List Nd))(k:Nat)(r r':List Nd)(hk:rows[k]?=some r)(hs:∀ x∈r',∃ y∈r,x.sum=y.sum)(hp:∀ (i:Nat) r,rows[i]?=some r->∀ y∈r,y.sum % rows.length=i) :
 ∀ (i:Nat) r0,(rows.set k r')[i]?=some r0->∀ y∈r0,y.sum % (rows.set k r').length=i:=by
 intro i r0 hr y hy;rw [List.length_set];rw [List.getElem?_set] at hr
 split at hr
 ·rename_i e
  split at hr
  ·cases hr
   obtain ⟨z,h1,h2⟩:=hs y hy;rw [h2,<- e];exact hp k r hk z h1
  ·cases hr
 ·exact hp i r0 hr y hy
theorem z0l{a b:List Nd}(h:a.Perm b):a.length=b.length:=h.length_eq
theorem Inv.upd(h:Inv T seed D){s j:Nat}{r:List Nd}(hr:(D.rowsOf s)[j]?=some r)(hne:r≠[])(f:List Nd->List Nd)(hf:∀ x∈f r,(∃ y∈r,x.sum=y.sum/\x.key=y.key)/\T.ok x.v)(hu:((f r).map Nd.key).Sublist (r.map Nd.key))
 (m:Nat) (hm:m+r.length=D.n+(f r).length):Inv T seed { D.upd s j f with n:=m }/\∃ rest,D.nodes.Perm (r++rest)/\(D.upd s j f).nodes.Perm (f r++rest):=by
 have hal:=Zp h.ok.a
 have hfine:∀ x∈f r,(∀ y∈r,y.fine T)->x.fine T:=fun x hx hy=>by
  obtain ⟨⟨y,h1,h2,_⟩,h3⟩:=hf x hx;exact ⟨by rw [h2];exact (hy y h1).1,h3⟩
 have hsums:∀ x∈f r,∃ y∈r,x.sum=y.sum:=fun x hx=>by
  obtain ⟨⟨y,h1,h2,_⟩,_⟩:=hf x hx;exact ⟨y,h1,h2⟩
 have fin:∀ (D':Dc) (rest:List Nd),D'.n=m->D.nodes.Perm (r++rest)->D'.nodes.Perm (f r++rest)->(D'.n=D'.a.flatten.length+D'.b.flatten.length->D'.Ok T) ->
  (∀ (i:Nat) r,D'.a[i]?=some r->∀ x∈r,x.sum % D'.a.length=i)->(∀ (i:Nat) r,D'.b[i]?=some r->∀ x∈r,x.sum % D'.b.length=i)->Inv T seed D':=fun D' rest hn h1 h2 hok pa pb=>by
  refine ⟨hok ?_,fun x hx=>?_,pa,pb,?_⟩
  ·have h3:=z0l h1;have h4:=z0l h2;have h5:=h.ok.n;have e1:D.nodes.length=D.a.flatten.length+D.b.flatten.length:=by unfold Dc.nodes;rw [lAh]
   have e2:D'.nodes.length=D'.a.flatten.length+D'.b.flatten.length:=by unfold Dc.nodes;rw [lAh]
   rw [lAh] at h3 h4;omega
  ·rcases List.mem_append.1 (h2.mem_iff.1 hx) with h3|h3
   ·obtain ⟨⟨y,h4,h5,h6⟩,_⟩:=hf x h3;rw [h5,h6];exact h.sum y (h1.mem_iff.2 (List.mem_append_left _ h4))
   ·exact h.sum x (h1.mem_iff.2 (List.mem_append_right _ h3))
  ·refine (h2.map Nd.key).nodup_iff.2 ?_;have h3:=(h1.map Nd.key).nodup_iff.1 h.uniq;rw [List.map_append] at h3 ⊢;exact h3.sublist (hu.append_right _)
 by_cases hj:j=0
 ·subst hj;have hre:r=D.a.getD (s % D.a.length) []:=by unfold Dc.rowsOf at hr;simpa using hr.symm
  have hlt:s % D.a.length<D.a.length:=Nat.mod_lt _ (by omega);have hk:D.a[s % D.a.length]?=some r:=by rw [hre,List.getD_eq_getElem?_getD,lAa hlt];rfl
  have hrm:r∈D.a:=lAc hk;have p1:=I9 D.a _ hlt;rw [<- hre] at p1;have p2:=Fq D.a _ (f r) hlt;have hd:D.upd s 0 f={ D with a:=D.a.set (s % D.a.length) (f r) }:=by unfold Dc.upd;rw [if_pos rfl,<- hre]
  have q1:D.nodes.Perm (r++((D.a.set (s % D.a.length) []).flatten++D.b.flatten)):=by
   unfold Dc.nodes;rw [<- List.append_assoc];exact p1.append_right _
  have q2:(D.upd s 0 f).nodes.Perm (f r++((D.a.set (s % D.a.length) []).flatten++D.b.flatten)):=by
   rw [hd];unfold Dc.nodes;rw [<- List.append_assoc];exact p2.append_right _
  refine ⟨fin _ _ rfl q1 q2 (fun hn=>?_) ?_ ?_,_,q1,q2⟩
  ·rw [hd] at hn ⊢;refine ⟨by simp only [List.length_set];exact h.ok.a,h.ok.b,fun e=>by simp only [List.length_set];exact h.ok.place e,h.ok.still,fun i hi=>?_,hn,fun r0 hr0 x hx=>?_⟩
   ·have hi':i<D.place:=hi;have h1:=h.ok.past i hi';show (D.a.set (s % D.a.length) (f r)).getD i []=[]
    by_cases e:i=s % D.a.length
    ·subst e;rw [<- hre] at h1;exact absurd h1 hne
    ·rw [O8 _ _ _ _ e];exact h1
   ·rcases hr0 with hr0|hr0
    ·rcases List.mem_or_eq_of_mem_set hr0 with h1|rfl
     ·exact h.ok.fine r0 (.inl h1) x hx
     ·exact hfine x hx fun y hy=>h.ok.fine r (.inl hrm) y hy
    ·exact h.ok.fine r0 (.inr hr0) x hx
  ·rw [hd];exact z0i D.a _ r (f r) hk hsums h.pa
  ·rw [hd];exact h.pb
 ·have hb:D.b≠[]:=fun e=>by
   unfold Dc.rowsOf at hr;rw [if_pos e] at hr
   match j,hj,hr with
   | j+1,_,hr=>simp at hr
  have hre:r=D.b.getD (s % D.b.length) []:=by
   unfold Dc.rowsOf at hr;rw [if_neg hb] at hr
   match j,hj,hr with
   | 1,_,hr=>simpa using hr.symm
   | j+2,_,hr=>simp at hr
  have hbl:=Zp (h.ok.b hb);have hlt:s % D.b.length<D.b.length:=Nat.mod_lt _ (by omega);have hk:D.b[s % D.b.length]?=some r:=by rw [hre,List.getD_eq_getElem?_getD,lAa hlt];rfl
  have hrm:r∈D.b:=lAc hk;have p1:=I9 D.b _ hlt;rw [<- hre] at p1;have p2:=Fq D.b _ (f r) hlt;have hd:D.upd s j f={ D with b:=D.b.set (s % D.b.length) (f r) }:=by unfold Dc.upd;rw [if_neg hj,<- hre]
  have q0:∀ (x y z:List Nd),(x++(y++z)).Perm (y++(x++z)):=fun x y z=>by
   rw [<- List.append_assoc,<- List.append_assoc];exact List.perm_append_comm.append_right _
  have q1:D.nodes.Perm (r++(D.a.flatten++(D.b.set (s % D.b.length) []).flatten)):=by
   unfold Dc.nodes;exact (p1.append_left _).trans (q0 _ _ _)
  have q2:(D.upd s j f).nodes.Perm (f r++(D.a.flatten++(D.b.set (s % D.b.length) []).flatten)):=by
   rw [hd];unfold Dc.nodes;exact (p2.append_left _).trans (q0 _ _ _)
  have hne2:∀ q,D.b.set (s % D.b.length) q≠[]:=fun q e=>hb (List.eq_nil_of_length_eq_zero (by have:=congrArg List.length e;simpa using this));refine ⟨fin _ _ rfl q1 q2 (fun hn=>?_) ?_ ?_,_,q1,q2⟩
  ·rw [hd] at hn ⊢;refine ⟨h.ok.a,fun _=>by simp only [List.length_set];exact h.ok.b hb,fun _=>h.ok.place hb,fun e=>absurd e (hne2 _),h.ok.past,hn,fun r0 hr0 x hx=>?_⟩;rcases hr0 with hr0|hr0
   ·exact h.ok.fine r0 (.inl hr0) x hx
   ·rcases List.mem_or_eq_of_mem_set hr0 with h1|rfl
    ·exact h.ok.fine r0 (.inr h1) x hx
    ·exact hfine x hx fun y hy=>h.ok.fine r (.inr hrm) y hy
  ·rw [hd];exact h.pa
  ·rw [hd];exact z0i D.b _ r (f r) hk hsums h.pb
end
section
variable {T:Ty} {seed:Nat} {D:Dc}
theorem z3c{r:List Nd}{i:Nat}{y:Nd}(h:r[i]?=some y):r=r.take i++y :: r.drop (i+1):=by
 obtain ⟨hi,rfl⟩:=lAb.1 h;rw [<- List.drop_eq_getElem_cons hi,List.take_append_drop]
theorem x5s{r:List Nd}{i:Nat}{y:Nd}(v:Value)(h:r[i]?=some y):Mw i v r=r.take i++{ y with v:=v } :: r.drop (i+1):=by
 unfold Mw;rw [h];simp only;exact List.set_eq_take_append_cons_drop.trans (by rw [if_pos (lAb.1 h).1])
theorem Inv.add(h:Inv T seed D)(x:Nd)(hx:x.fine T)(hs:x.sum=Zq seed x.key.data.toList)(hn:∀ y∈D.nodes,y.key≠x.key):Inv T seed (D.add x)/\(D.add x).nodes.Perm (x :: D.nodes)/\(D.add x).n=D.n+1:=by
 have hal:=Zp h.ok.a
 have fin:∀ D':Dc,D'.nodes.Perm (x :: D.nodes)->D'.Ok T->(∀ (i:Nat) r,D'.a[i]?=some r->∀ x∈r,x.sum % D'.a.length=i)->(∀ (i:Nat) r,D'.b[i]?=some r->∀ x∈r,x.sum % D'.b.length=i)->Inv T seed D':=fun D' h1 ok pa pb=>by
  refine ⟨ok,fun y hy=>?_,pa,pb,(h1.map Nd.key).nodup_iff.2 ?_⟩
  ·rcases List.mem_cons.1 (h1.mem_iff.1 hy) with rfl|h2
   ·exact hs
   ·exact h.sum y h2
  ·rw [List.map_cons,List.nodup_cons];refine ⟨fun h2=>?_,h.uniq⟩;obtain ⟨y,h3,h4⟩:=List.mem_map.1 h2;exact hn y h3 h4
 by_cases hb:D.b=[]
 ·have hd:D.add x={ D with a:=Vs D.a x,n:=D.n+1 }:=by unfold Dc.add;rw [if_pos hb]
  have hp:(D.add x).nodes.Perm (x :: D.nodes):=by
   rw [hd];unfold Dc.nodes;exact (C4 D.a x (by omega)).append_right _
  refine ⟨fin _ hp ?_ ?_ ?_,hp,by rw [hd]⟩
  ·rw [hd];have ht:=Gd D.a x (by omega);have hn:=h.ok.n;refine ⟨by rw [Yz];exact h.ok.a,h.ok.b,fun e=>by simp only [Yz];exact h.ok.place e,h.ok.still,fun i hi=>?_,?_,fun r hr y hy=>?_⟩
   ·have hi':i<D.place:=hi;rw [h.ok.still hb] at hi';omega
   ·show D.n+1=(Vs D.a x).flatten.length+D.b.flatten.length;omega
   ·rcases hr with hr|hr
    ·exact C3 D.a x hx (fun r hr=>h.ok.fine r (.inl hr)) r hr y hy
    ·exact h.ok.fine r (.inr hr) y hy
  ·rw [hd];exact J7 D.a x h.pa
  ·rw [hd];exact h.pb
 ·have hd:D.add x={ D with b:=Vs D.b x,n:=D.n+1 }:=by unfold Dc.add;rw [if_neg hb]
  have hbl:=Zp (h.ok.b hb);have hne:Vs D.b x≠[]:=fun e=>hb (List.eq_nil_of_length_eq_zero (by have:=congrArg List.length e;rw [Yz] at this;simpa using this))
  have hp:(D.add x).nodes.Perm (x :: D.nodes):=by
   rw [hd];unfold Dc.nodes;exact ((C4 D.b x (by omega)).append_left _).trans List.perm_middle
  refine ⟨fin _ hp ?_ ?_ ?_,hp,by rw [hd]⟩
  ·rw [hd];have ht:=Gd D.b x (by omega);have hn:=h.ok.n;refine ⟨h.ok.a,fun _=>by rw [Yz];exact h.ok.b hb,fun _=>h.ok.place hb,fun e=>absurd e hne,h.ok.past,?_,fun r hr y hy=>?_⟩
   ·show D.n+1=D.a.flatten.length+(Vs D.b x).flatten.length;omega
   ·rcases hr with hr|hr
    ·exact h.ok.fine r (.inl hr) y hy
    ·exact C3 D.b x hx (fun r hr=>h.ok.fine r (.inr hr)) r hr y hy
  ·rw [hd];exact h.pa
  ·rw [hd];exact J7 D.b x h.pb
theorem Inv.set(h:Inv T seed D)(key:ByteArray)(v:Value)(hv:T.ok v) :
 Inv T seed (D.setS (Zq seed key.data.toList) key v) /\
  (((D.step 1).hit (Zq seed key.data.toList) key=none/\(∀ x∈D.nodes,x.key≠key)/\(D.setS (Zq seed key.data.toList) key v).nodes.Perm (⟨Zq seed key.data.toList,key,v⟩ :: D.nodes)/\(D.setS (Zq seed key.data.toList) key v).n=D.n+1) \/
   (∃ ji y rest,(D.step 1).hit (Zq seed key.data.toList) key=some ji/\y.key=key/\D.nodes.Perm (y :: rest)/\(D.setS (Zq seed key.data.toList) key v).nodes.Perm ({ y with v:=v } :: rest)/\(D.setS (Zq seed key.data.toList) key v).n=D.n)):=by
 obtain ⟨h1,p1⟩:=h.step 1;have hn1:=(Qj h.ok 1).2;unfold Dc.setS
 cases hh:(D.step 1).hit (Zq seed key.data.toList) key with
 | none =>
   simp only;have hno:=h1.hit_none hh;have h2:=h1.grown;have hg:=Ae h1.ok;have hnd:(D.step 1).grown.nodes=(D.step 1).nodes:=z7q;obtain ⟨h3,p3,n3⟩:=h2.add ⟨Zq seed key.data.toList,key,v⟩ ⟨Of _ _,hv⟩ rfl (fun y hy=>hno y (by rw [<- hnd];exact hy));refine ⟨h3,.inl ⟨trivial,fun x hx=>hno x (p1.mem_iff.2 hx),?_,by rw [n3,hg.2,hn1]⟩⟩;rw [hnd] at p3;exact p3.trans (p1.cons _)
 | some ji =>
   obtain ⟨j,i⟩:=ji;simp only;obtain ⟨r,y,hr,hi,_,_,hk,hs⟩:=Ag hh;have hrow:=z3c hi;have hsv:=x5s v hi;have hne:r≠[]:=fun e=>by rw [e] at hi;simp at hi
   have hfr:∀ x∈r,x.fine T:=(I4 hr hi h1.ok).2;have hmem:∀ x∈r.take i,x∈r:=fun x hx=>List.mem_of_mem_take hx;have hmem2:∀ x∈r.drop (i+1),x∈r:=fun x hx=>List.mem_of_mem_drop hx
   obtain ⟨h2,rest,q1,q2⟩:=h1.upd hr hne (Mw i v) (fun x hx=>by
    rw [hsv] at hx;rcases List.mem_append.1 hx with h3|h3
    ·exact ⟨⟨x,hmem x h3,rfl,rfl⟩,(hfr x (hmem x h3)).2⟩
    ·rcases List.mem_cons.1 h3 with rfl|h4
     ·exact ⟨⟨y,lAc hi,rfl,rfl⟩,hv⟩
     ·exact ⟨⟨x,hmem2 x h4,rfl,rfl⟩,(hfr x (hmem2 x h4)).2⟩) (by
    have:(Mw i v r).map Nd.key=r.map Nd.key:=by
     rw [hsv]
     conv=>rhs;rw [hrow]
     simp
    rw [this]
    exact List.Sublist.refl _) (D.step 1).n (by rw [z0g])
   have hd:({ (D.step 1).upd (Zq seed key.data.toList) j (Mw i v) with n:=(D.step 1).n }:Dc)=(D.step 1).upd (Zq seed key.data.toList) j (Mw i v):=by unfold Dc.upd;split <;> rfl
   rw [hd] at h2;refine ⟨h2,.inr ⟨(j,i),y,r.take i++r.drop (i+1)++rest,rfl,hk,?_,?_,by rw [x6t,hn1]⟩⟩
   ·refine (p1.symm.trans q1).trans ?_;rw [hrow];rw [List.append_assoc,List.append_assoc,List.cons_append];have e1:List.take i (List.take i r++y :: List.drop (i+1) r)=List.take i r:=by rw [<- hrow]
    have e2:List.drop (i+1) (List.take i r++y :: List.drop (i+1) r)=List.drop (i+1) r:=by rw [<- hrow]
    rw [e1,e2];exact List.perm_middle
   ·refine q2.trans ?_;rw [hsv,List.append_assoc,List.append_assoc,List.cons_append];exact List.perm_middle
theorem Inv.del(h:Inv T seed D)(key:ByteArray) :
 Inv T seed (D.delS (Zq seed key.data.toList) key) /\
  (((D.step 1).hit (Zq seed key.data.toList) key=none/\(∀ x∈D.nodes,x.key≠key)/\(D.delS (Zq seed key.data.toList) key).nodes.Perm D.nodes/\(D.delS (Zq seed key.data.toList) key).n=D.n) \/
   (∃ ji y rest,(D.step 1).hit (Zq seed key.data.toList) key=some ji/\y.key=key/\D.nodes.Perm (y :: rest)/\(D.delS (Zq seed key.data.toList) key).nodes.Perm rest/\(D.delS (Zq seed key.data.toList) key).n+1=D.n)):=by
 obtain ⟨h1,p1⟩:=h.step 1;have hn1:=(Qj h.ok 1).2;unfold Dc.delS
 cases hh:(D.step 1).hit (Zq seed key.data.toList) key with
 | none =>
   have hno:=h1.hit_none hh;exact ⟨h1,.inl ⟨rfl,fun x hx=>hno x (p1.mem_iff.2 hx),p1,hn1⟩⟩
 | some ji =>
   obtain ⟨j,i⟩:=ji;simp only;obtain ⟨r,y,hr,hi,_,_,hk,hs⟩:=Ag hh;have hrow:=z3c hi;have hsv:=List.eraseIdx_eq_take_drop_succ r i;have hil:=(lAb.1 hi).1;have hne:r≠[]:=fun e=>by rw [e] at hi;simp at hi
   have hfr:∀ x∈r,x.fine T:=(I4 hr hi h1.ok).2;have hel:(r.eraseIdx i).length=r.length-1:=by rw [List.length_eraseIdx,if_pos hil]
   have hpos:0<(D.step 1).n:=by
    have h3:=V6 (D:=D.step 1) _ j r hr;have h5:=h1.ok.n;omega
   obtain ⟨h2,rest,q1,q2⟩:=h1.upd hr hne (·.eraseIdx i) (fun x hx=>by
    have hx':x∈r:=(List.eraseIdx_sublist r i).subset hx
    exact ⟨⟨x,hx',rfl,rfl⟩,(hfr x hx').2⟩) ((List.eraseIdx_sublist r i).map Nd.key) ((D.step 1).n-1) (by simp only [hel];omega)
   have hd:({ (D.step 1).upd (Zq seed key.data.toList) j (·.eraseIdx i) with n:=(D.step 1).n-1 }:Dc)=((D.step 1).upd (Zq seed key.data.toList) j (·.eraseIdx i)).less:=by unfold Dc.less;rw [x6t]
   rw [hd] at h2;have hsn:∀ D':Dc,D'.shrunk.n=D'.n:=fun D'=>by unfold Dc.shrunk;split <;> rfl
   refine ⟨h2.shrunk,.inr ⟨(j,i),y,r.take i++r.drop (i+1)++rest,rfl,hk,?_,?_,?_⟩⟩
   ·refine (p1.symm.trans q1).trans ?_
    have e1:r++rest=r.take i++(y :: (r.drop (i+1)++rest)):=by
     conv=>lhs;rw [hrow]
     simp
    rw [e1,List.append_assoc];exact List.perm_middle
   ·rw [z6d]
    have:(((D.step 1).upd (Zq seed key.data.toList) j (·.eraseIdx i)).less).nodes=((D.step 1).upd (Zq seed key.data.toList) j (·.eraseIdx i)).nodes:=rfl
    rw [this,<- hsv];exact q2
   ·rw [hsn];show (((D.step 1).upd (Zq seed key.data.toList) j (·.eraseIdx i)).n-1)+1=D.n;rw [x6t];omega
def Like(T:Ty)(seed:Nat)(D:Dc)(m:ByteArray->Option Value):Prop:=Inv T seed D/\∀ k v,(∃ x∈D.nodes,x.key=k/\x.v=v)↔m k=some v
def y3c(m:ByteArray->Option Value)(key:ByteArray)(v:Value):ByteArray->Option Value:=fun k=>if k=key then some v else m k
def y3l(m:ByteArray->Option Value)(key:ByteArray):ByteArray->Option Value:=fun k=>if k=key then none else m k
theorem Like.of_perm{D':Dc}{m:ByteArray->Option Value}(h:Like T seed D m)(h':Inv T seed D')(hp:D'.nodes.Perm D.nodes):Like T seed D' m :=
 ⟨h',fun k v=>(by rw [<- h.2 k v];exact ⟨fun ⟨x,h1,h2⟩=>⟨x,hp.mem_iff.1 h1,h2⟩,fun ⟨x,h1,h2⟩=>⟨x,hp.mem_iff.2 h1,h2⟩⟩)⟩
theorem Like.step{m:ByteArray->Option Value}(h:Like T seed D m)(n:Nat):Like T seed (D.step n) m:=h.of_perm (h.1.step n).1 (h.1.step n).2
theorem Like.hit{m:ByteArray->Option Value}(h:Like T seed D m)(key:ByteArray):(D.hit (Zq seed key.data.toList) key).isSome=(m key).isSome/\(∀ y,D.node (Zq seed key.data.toList) key=some y->m key=some y.v)/\((m key)=none->D.node (Zq seed key.data.toList) key=none)/\((m key).isSome=true->∃ y,D.node (Zq seed key.data.toList) key=some y):=by
 cases hh:D.hit (Zq seed key.data.toList) key with
 | none =>
   have hno:=h.1.hit_none hh
   have hm:m key=none:=by
    cases hm:m key with
    | none=>rfl
    | some v =>
      obtain ⟨x,h1,h2,_⟩:=(h.2 key v).2 hm;exact absurd h2 (hno x h1)
   have hnd:D.node (Zq seed key.data.toList) key=none:=by unfold Dc.node;rw [hh]
   rw [hm,hnd];refine ⟨rfl,?_,?_,?_⟩
   ·intro y e;cases e
   ·intro _;rfl
   ·intro e;cases e
 | some ji =>
   obtain ⟨j,i⟩:=ji;obtain ⟨r,y,_,_,hnd,hy,hk,_⟩:=Ag hh;have hm:=(h.2 key y.v).1 ⟨y,hy,hk,rfl⟩;rw [hm,hnd];refine ⟨rfl,?_,?_,?_⟩
   ·intro y' e;cases e;rfl
   ·intro e;cases e
   ·intro _;exact ⟨y,rfl⟩
theorem Like.set{m:ByteArray->Option Value}(h:Like T seed D m)(key:ByteArray)(v:Value)(hv:T.ok v):Like T seed (D.setS (Zq seed key.data.toList) key v) (y3c m key v)/\(D.setS (Zq seed key.data.toList) key v).n=if (m key).isSome then D.n else D.n+1:=by
 obtain ⟨h1,h2⟩:=h.1.set key v hv;have h3:=((h.step 1).hit key).1;rcases h2 with ⟨e1,hno,hp,hn⟩|⟨ji,y,rest,e1,hk,p1,p2,hn⟩
 ·rw [e1] at h3;refine ⟨⟨h1,fun k v'=>?_⟩,by rw [hn,<- h3];rfl⟩;unfold y3c
  by_cases hkk:k=key
  ·rw [if_pos hkk];subst hkk
   constructor
   ·rintro ⟨x,hx,hx2,hx3⟩;rcases List.mem_cons.1 (hp.mem_iff.1 hx) with rfl|h4
    ·rw [<- hx3]
    ·exact absurd hx2 (hno x h4)
   ·intro e
    cases e
    exact ⟨_,hp.mem_iff.2 (List.mem_cons_self ..),rfl,rfl⟩
  ·rw [if_neg hkk,<- h.2 k v']
   constructor
   ·rintro ⟨x,hx,hx2,hx3⟩;rcases List.mem_cons.1 (hp.mem_iff.1 hx) with rfl|h4
    ·exact absurd hx2.symm hkk
    ·exact ⟨x,h4,hx2,hx3⟩
   ·rintro ⟨x,hx,hx2⟩;exact ⟨x,hp.mem_iff.2 (List.mem_cons_of_mem _ hx),hx2⟩
 ·rw [e1] at h3;refine ⟨⟨h1,fun k v'=>?_⟩,by rw [hn,<- h3];rfl⟩;have hu:=(p1.map Nd.key).nodup_iff.1 h.1.uniq;rw [List.map_cons,List.nodup_cons] at hu;have hrest:∀ x∈rest,x.key≠key:=fun x hx e=>hu.1 (by rw [hk,<- e];exact List.mem_map.2 ⟨x,hx,rfl⟩);unfold y3c
  by_cases hkk:k=key
  ·rw [if_pos hkk];subst hkk
   constructor
   ·rintro ⟨x,hx,hx2,hx3⟩;rcases List.mem_cons.1 (p2.mem_iff.1 hx) with rfl|h4
    ·rw [<- hx3]
    ·exact absurd hx2 (hrest x h4)
   ·intro e
    cases e
    exact ⟨_,p2.mem_iff.2 (List.mem_cons_self ..),hk,rfl⟩
  ·rw [if_neg hkk,<- h.2 k v']
   constructor
   ·rintro ⟨x,hx,hx2,hx3⟩;rcases List.mem_cons.1 (p2.mem_iff.1 hx) with rfl|h4
    ·exact absurd (hx2.symm.trans hk) hkk
    ·exact ⟨x,p1.mem_iff.2 (List.mem_cons_of_mem _ h4),hx2,hx3⟩
   ·rintro ⟨x,hx,hx2,hx3⟩;rcases List.mem_cons.1 (p1.mem_iff.1 hx) with rfl|h4
    ·exact absurd (hx2.symm.trans hk) hkk
    ·exact ⟨x,p2.mem_iff.2 (List.mem_cons_of_mem _ h4),hx2,hx3⟩
theorem Like.del{m:ByteArray->Option Value}(h:Like T seed D m)(key:ByteArray):Like T seed (D.delS (Zq seed key.data.toList) key) (y3l m key)/\(D.delS (Zq seed key.data.toList) key).n=(if (m key).isSome then D.n-1 else D.n)/\((m key).isSome=true->0<D.n):=by
 obtain ⟨h1,h2⟩:=h.1.del key;have h3:=((h.step 1).hit key).1;rcases h2 with ⟨e1,hno,hp,hn⟩|⟨ji,y,rest,e1,hk,p1,p2,hn⟩
 ·rw [e1] at h3;have h3':(m key).isSome=false:=h3.symm;refine ⟨⟨h1,fun k v'=>?_⟩,by rw [hn,h3'];rfl,fun e=>by rw [h3'] at e;cases e⟩;unfold y3l
  by_cases hkk:k=key
  ·rw [if_pos hkk];subst hkk
   constructor
   ·rintro ⟨x,hx,hx2,hx3⟩;exact absurd hx2 (hno x (hp.mem_iff.1 hx))
   ·intro e;cases e
  ·rw [if_neg hkk,<- h.2 k v'];exact ⟨fun ⟨x,h1,h2⟩=>⟨x,hp.mem_iff.1 h1,h2⟩,fun ⟨x,h1,h2⟩=>⟨x,hp.mem_iff.2 h1,h2⟩⟩
 ·rw [e1] at h3;have h3':(m key).isSome=true:=h3.symm;refine ⟨⟨h1,fun k v'=>?_⟩,by rw [h3',if_pos rfl];omega,fun _=>by omega⟩;have hu:=(p1.map Nd.key).nodup_iff.1 h.1.uniq;rw [List.map_cons,List.nodup_cons] at hu;have hrest:∀ x∈rest,x.key≠key:=fun x hx e=>hu.1 (by rw [hk,<- e];exact List.mem_map.2 ⟨x,hx,rfl⟩);unfold y3l
  by_cases hkk:k=key
  ·rw [if_pos hkk];subst hkk
   constructor
   ·rintro ⟨x,hx,hx2,hx3⟩;exact absurd hx2 (hrest x (p2.mem_iff.1 hx))
   ·intro e;cases e
  ·rw [if_neg hkk,<- h.2 k v']
   constructor
   ·rintro ⟨x,hx,hx2⟩;exact ⟨x,p1.mem_iff.2 (List.mem_cons_of_mem _ (p2.mem_iff.1 hx)),hx2⟩
   ·rintro ⟨x,hx,hx2,hx3⟩;rcases List.mem_cons.1 (p1.mem_iff.1 hx) with rfl|h4
    ·exact absurd (hx2.symm.trans hk) hkk
    ·exact ⟨x,p2.mem_iff.2 h4,hx2,hx3⟩
theorem Like.new(T:Ty)(seed:Nat):Like T seed Du (fun _=>none):=by
 have hn:Du.nodes=[]:=by decide
 refine ⟨⟨x8u T,fun x hx=>?_,fun i r hr x hx=>?_,fun i r hr x hx=>?_,?_⟩,fun k v=>⟨fun ⟨x,hx,_⟩=>?_,fun e=>by cases e⟩⟩
 ·rw [hn] at hx;simp at hx
 ·have:=lAc hr
  rw [List.eq_of_mem_replicate this] at hx;simp at hx
 ·simp [Du] at hr
 ·rw [hn];simp
 ·rw [hn] at hx;simp at hx
end
end Go.Proofs.YtcklcmafohlflaaGreatDoor.Dc

/- Texts of one kind in one: DcDoes, Shelf, DcOps, DcSet, DcMap. -/
import Derived.Test.YtmehfohpjigmmaaGreatDoorQDcStep05
import Derived.Shelf.Strconv.Clone
set_option maxRecDepth 200000
set_option maxHeartbeats 8000000
namespace Go.Proofs.YtmehfohpjigmmaaGreatDoor.Dc
open Zc
open Go.RowKit Go.Shelf
attribute [local go_sem] Oper.semAt_some
def Uw(i:Nat)(v:Value)(r:List Nd):List Nd:=match r[i]? with|some y=>r.set i { y with v:=v }|none=>r
theorem Iy(r:List Nd):∀ (i:Nat) (v:Value) (y:Nd),r[i]?=some y->Yz (Uw i v r)=(Yz r).set (i*3+2) v:=by
 induction r with
 | nil=>intro i v y h;simp at h
 | cons z r ih =>
   intro i v y h
   cases i with
   | zero=>simp at h;subst h;rfl
   | succ i =>
     have h2:r[i]?=some y:=by simpa using h
     have:=ih i v y h2
     unfold Uw at this ⊢;rw [h2] at this;rw [h];simp only at this ⊢;rw [List.set_cons_succ,P6,this,P6,List.set_append_right _ _ (by simp [Nd.cells];omega)]
     congr 2
     simp [Nd.cells];omega
theorem I0(i:Nat)(v:Value)(r:List Nd):(Uw i v r).length=r.length:=by unfold Uw;split <;> simp
section
variable {S:Nat->Prop} {p seed:Nat} {D1:Dc} {w:World}
theorem Fj{W:World}{g0 g1:Nat}{va vb:List Value}(hf:Foot (Xe tyI S w W) p g0 g1 va vb D1){s j:Nat}{x:Nat × Nat}(hx:(D1.slots g0 g1 s)[j]?=some x):S x.1\/w.heap.size<=x.1:=by
 unfold Dc.slots at hx
 match j,hx with
 | 0,hx=>simp at hx;subst hx;exact hf.g0.1
 | 1,hx =>
   by_cases hb:D1.b=[]
   ·rw [if_pos hb] at hx;simp at hx
   ·rw [if_neg hb] at hx;simp at hx;subst hx;exact (hf.g1 hb).1
 | j+2,hx =>
   by_cases hb:D1.b=[]
   ·rw [if_pos hb] at hx;simp at hx
   ·rw [if_neg hb] at hx;simp at hx
theorem z1g{W:World}{g0 g1:Nat}{va vb:List Value}(hf:Foot (Xe tyI S w W) p g0 g1 va vb D1){A1:Option Addr}(hm:Mem tyI W p g0 g1 A1 va vb seed D1)(ok:D1.Ok tyI){s j:Nat}{x:Nat × Nat}(hx:(D1.slots g0 g1 s)[j]?=some x){v:Value}
 (hc:W.cell? ⟨x.1,x.2,none⟩=some v) (k:Nat) (hk:v.ownBlock=some k):S k\/w.heap.size<=k:=by
 have hal:=Zm ok.a;unfold Dc.slots at hx
 match j,hx with
 | 0,hx =>
   simp at hx;subst hx
   have hv:va[s % D1.a.length]?=some v:=by
    have:=hm.ta.blk.cell (s % D1.a.length)
    rw [hc] at this
    simpa using this.symm
   exact (hf.row v (List.mem_append_left _ (List.mem_of_getElem? hv)) k hk).1
 | 1,hx =>
   by_cases hb:D1.b=[]
   ·rw [if_pos hb] at hx;simp at hx
   ·rw [if_neg hb] at hx;simp at hx;subst hx;rcases hm.tb with ⟨h1,_⟩|⟨h1,h2,h3,h4⟩
    ·exact absurd h1 hb
    have hv:vb[s % D1.b.length]?=some v:=by
     have:=h4.blk.cell (s % D1.b.length)
     rw [hc] at this
     simpa using this.symm
    exact (hf.row v (List.mem_append_right _ (List.mem_of_getElem? hv)) k hk).1
 | j+2,hx =>
   by_cases hb:D1.b=[]
   ·rw [if_pos hb] at hx;simp at hx
   ·rw [if_neg hb] at hx;simp at hx
theorem Mf{W W':World}{g0 g1:Nat}{A1:Option Addr}{va vb:List Value}(hm:Mem tyI W p g0 g1 A1 va vb seed D1)(hf:Foot (Xe tyI S w W) p g0 g1 va vb D1)(hF:Far S w W)(ok:D1.Ok tyI){s j:Nat}{x:Nat × Nat}(hx:(D1.slots g0 g1 s)[j]?=some x)
 {v v':Value} {f:List Nd->List Nd} (hc:W.cell? ⟨x.1,x.2,none⟩=some v) (fr:Far (fun b=>v.ownBlock=some b\/b=x.1) W W') (hown:∀ k,v'.ownBlock=some k->v.ownBlock=some k)
 (hb:∀ vs:List Value,Blk W x.1 289 vs.toArray->vs[x.2]?=some v->Blk W' x.1 289 (vs.set x.2 v').toArray) (hr:∀ r,(D1.rowsOf s)[j]?=some r->RowAt tyI W' v' (f r)):Went tyI S w p seed (D1.upd s j f) W':=by
 obtain ⟨va',vb',hm',hin⟩:=hm.upd Qb ok s j x hx hc fr hown hb hr;have hbn:(D1.upd s j f).b≠[]->D1.b≠[]:=fun h e=>h (by unfold Dc.upd;split;exact e;simp [e]);refine Went.mk' hm' (hF.trans fr fun k hk=>?_) hf.p.1 hf.g0.1 (fun h=>(hf.g1 (hbn h)).1) fun u hu k hk=>?_
 ·rcases hk with h|rfl
  ·exact z1g hf hm ok hx hc k h
  ·exact Fj hf hx
 ·obtain ⟨u0,h1,h2⟩:=hin u hu k hk;exact (hf.row u0 h1 k h2).1
theorem Of{W:World}{g0 g1:Nat}{A1:Option Addr}{va vb:List Value}(hm:Mem tyI W p g0 g1 A1 va vb seed D1){s j:Nat}{x:Nat × Nat}(hx:(D1.slots g0 g1 s)[j]?=some x):∃ vs:List Value,Blk W x.1 289 vs.toArray:=by
 unfold Dc.slots at hx
 match j,hx with
 | 0,hx=>simp at hx;subst hx;exact ⟨va,hm.ta.blk⟩
 | 1,hx =>
   by_cases hb:D1.b=[]
   ·rw [if_pos hb] at hx;simp at hx
   ·rw [if_neg hb] at hx;simp at hx;subst hx;rcases hm.tb with ⟨h1,_⟩|⟨h1,h2,h3,h4⟩
    ·exact absurd h1 hb
    ·exact ⟨vb,h4.blk⟩
 | j+2,hx =>
   by_cases hb:D1.b=[]
   ·rw [if_pos hb] at hx;simp at hx
   ·rw [if_neg hb] at hx;simp at hx
theorem I1(ok:D1.Ok tyI)(hS:∀ k,S k->CellB tyI w k){s j i:Nat}{r0:List Nd}{y:Nd}(hr0:(D1.rowsOf s)[j]?=some r0)(hy:r0[i]?=some y)(hl:r0.length<=1000000)(vbx:Nat)(nv:Int)(hvb:Blk w vbx 2 #[.int .i64 nv]) :
 Does w S p seed D1 s j i 175 #[.pointer (some ⟨vbx,0,none⟩)] (fun W'=>Went tyI S w p seed (D1.upd s j (Uw i (.int .i64 nv))) W'):=by
 refine ⟨enters_of Tryz.func175 (by kernel_rfl) rfl,Yv _ (Nat.le_refl _) _ _ (fun _=>_),?_,?_⟩
 ·intro W b v c hb hk hW
  have:=(hW.1.far (S1:=fun k=>k=b) (W':=W.setCell ⟨b,0,none⟩ v) ((Far.refl _ _).set _ _ (.inl rfl)) (fun k hk2 e=>by subst e;exact Yf hk (by decide) hk2.2))
  exact ⟨this.wide (fun k hk=>⟨hk.1,this.cells k hk⟩) (fun _ hk=>hk.2),hW.2.set _ _ (.inr hb)⟩
 ·intro W g0 g1 A1 va vb x hm hf hF hx;obtain ⟨v,r,hr,c0,d0,hR⟩:=Uz hm ok s j x hx;rw [hr0] at hr
  cases hr
  have hvW:=hF.blk hvb (fun h=>Yf hvb (by decide) (hS _ h));obtain ⟨e0,e1⟩:=Z4 hvW;obtain ⟨A,cap,rfl,hcap,hmax,hat⟩:=hR.form;obtain ⟨g,rfl,hob,n0,n1,n2,fz⟩:=hat i y hy;have hil:=(List.getElem?_eq_some_iff.1 hy).1;have hil2:(i:Int)<r0.length:=by omega
  have hil3:(i:Int)<=1000000:=by omega
  have fz2:=fz (i*3+2)
  have hWE:∀ nq,Hid (KeepsFrom w.heap.size W ((W.drewN nq).setCell ⟨g,i*3+2,none⟩ (.int .i64 nv))/\(∀ b c,Blk W b 4 c->Blk ((W.drewN nq).setCell ⟨g,i*3+2,none⟩ (.int .i64 nv)) b 4 c)/\Went tyI S w p seed (D1.upd s j (Uw i (.int .i64 nv))) ((W.drewN nq).setCell ⟨g,i*3+2,none⟩ (.int .i64 nv))):=fun nq=>jY (by
   obtain ⟨vs0,hvs0⟩:=Of hm hx;obtain ⟨cg,hcg⟩:=hR.blk hob;have hgx:x.1≠g:=fun e=>by rw [e] at hvs0;exact absurd (hvs0.ty hcg) (by decide)
   have hRd:RowAt tyI (W.drewN nq) (.slice (some ⟨g,0,none⟩) r0.length cap) r0:=hR.far (S:=fun _=>False) (Far.of_below (Zn _ nq)) fun _ _ h=>h;have hst:=World.ownsRow.stored (w:=W.drewN nq) (base:=0) (e:=288) (size:=3) (g:=g) (n:=r0.length) (cap:=cap) (xs:=Yz r0) hRd (i*3+2) (.int .i64 nv);refine ⟨(Zn W nq:Below w.heap.size W _) |> fun _=>⟨by simp [World.setCell,World.drewN],fun k o hk ho hc=>(KeepsOthers.setCell (W.drewN nq) ⟨g,i*3+2,none⟩ (.int .i64 nv)).same k o ho hc⟩,fun b c hb=>?_,?_⟩
   ·exact (show Blk (W.drewN nq) b 4 c from hb).setOther _ _ (fun e=>by subst e;exact absurd (hb.ty hcg) (by decide))
   ·refine Mf hm hf hF ok hx c0 ((Far.of_below (Zn W nq)).trans (S1:=fun b=>b=g) ((Far.refl _ _).set _ _ (.inl rfl)) fun k hk=>.inl (.inl (by rw [hk];exact hob))) (fun k hk=>hk) (fun vs hb hv=>?_) (fun r hr2=>?_)
    ·have:vs.set x.2 (.slice (some ⟨g,0,none⟩) r0.length cap)=vs:=by
      apply List.ext_getElem?
      intro q
      by_cases e:q=x.2
      ·subst e;rw [List.getElem?_set_self (List.getElem?_eq_some_iff.1 hv).1,hv]
      ·rw [List.getElem?_set_ne (fun h=>e h.symm)]
     rw [this];exact (show Blk (W.drewN nq) x.1 289 vs.toArray from hb).setOther _ _ hgx
    ·rw [hr0] at hr2
     cases hr2
     have:=hst.1
     rw [<- Iy r0 i (.int .i64 nv) y hy] at this;unfold RowAt;rw [I0]
     exact this)
  clear hm hf hF hR hat fz hvW
  go_enter Tryz.func175,Tryz.ntmps175
  go_wp2
  go_still_tail 7,(by kernel_rfl)
  change wpList _ _ _ _ _ W.drew;go_wp2;go_returns;exact ⟨rfl,(hWE 1).out⟩
def Got(S:Nat->Prop)(p seed:Nat)(D1:Dc)(w:World)(vbx:Nat)(nv:Int)(W':World):Prop :=
 Rep tyI W' p (Xe tyI S w W') seed D1/\Far (fun k=>S k\/k=vbx) w W'/\Blk W' vbx 2 #[.int .i64 nv]
theorem Fz(B vbx:Nat)(hB:w.heap.size<=B)(nv:Int):OwnFrom B (fun (_:Unit) W=>Got S p seed D1 w vbx nv W):=fun s X Y row hs hg hr=>by
 have hf:Far (fun k=>row=some k) X Y:=Far.of_grown hg fun k e=>.inl e
 have hR:Rep tyI Y p (Xe tyI S w X) seed D1:=hs.1.far hf fun k hk e=>by
  obtain ⟨_,o,ho,hc⟩:=hr k e;obtain ⟨t,c,_,hb⟩:=hk.2;rw [show X.heap[k]?=_ from hb] at ho
  cases ho;cases hc
 exact ⟨hR.wide (fun k hk=>⟨hk.1,hR.cells k hk⟩) (fun _ hk=>hk.2),hs.2.1.trans hf fun k e=>.inr (by have:=(hr k e).1;omega),Zb B vbx 2 (fun _:Unit=>#[.int .i64 nv]) () X Y row hs.2.2 hg hr⟩
theorem Jh(ok:D1.Ok tyI)(hS:∀ k,S k->CellB tyI w k){s j i:Nat}{r0:List Nd}{y:Nd}(hr0:(D1.rowsOf s)[j]?=some r0)(hy:r0[i]?=some y)(hl:r0.length<=1000000)(vbx:Nat)(nv:Int)(hnv:y.v=.int .i64 nv)(z:Value)(hvb:Blk w vbx 2 #[z]) :
 Does w S p seed D1 s j i 285 #[.pointer (some ⟨vbx,0,none⟩)] (Got S p seed D1 w vbx nv):=by
 refine ⟨enters_of Tryz.func285 (by kernel_rfl) rfl,Fz _ vbx (Nat.le_refl _) nv,?_,?_⟩
 ·intro W b v c hb hk hW
  have:=(hW.1.far (S1:=fun k=>k=b) (W':=W.setCell ⟨b,0,none⟩ v) ((Far.refl _ _).set _ _ (.inl rfl)) (fun k hk2 e=>by subst e;exact Yf hk (by decide) hk2.2))
  exact ⟨this.wide (fun k hk=>⟨hk.1,this.cells k hk⟩) (fun _ hk=>hk.2),hW.2.1.set _ _ (.inr hb),hW.2.2.setOther _ _ (fun e=>by subst e;exact absurd (hk.ty hW.2.2) (by decide))⟩
 ·intro W g0 g1 A1 va vb x hm hf hF hx;obtain ⟨v,r,hr,c0,d0,hR⟩:=Uz hm ok s j x hx;rw [hr0] at hr
  cases hr
  have hvW:=hF.blk hvb (fun h=>Yf hvb (by decide) (hS _ h));obtain ⟨e0,e1⟩:=Z4 hvW;obtain ⟨A,cap,rfl,hcap,hmax,hat⟩:=hR.form;obtain ⟨g,rfl,hob,n0,n1,n2,fz⟩:=hat i y hy;rw [hnv] at n2;have hil:=(List.getElem?_eq_some_iff.1 hy).1;have hil2:(i:Int)<r0.length:=by omega
  have hil3:(i:Int)<=1000000:=by omega
  have hWE:Hid (KeepsFrom w.heap.size W (W.setCell ⟨vbx,0,none⟩ (.int .i64 nv))/\(∀ b c,Blk W b 4 c->Blk (W.setCell ⟨vbx,0,none⟩ (.int .i64 nv)) b 4 c)/\Got S p seed D1 w vbx nv (W.setCell ⟨vbx,0,none⟩ (.int .i64 nv))):=jY (by
   have hnc:¬ CellB tyI W vbx:=Yf hvW (by decide);have f:Far (fun k=>k=vbx) W (W.setCell ⟨vbx,0,none⟩ (.int .i64 nv)):=(Far.refl _ _).set _ _ (.inl rfl);have hne:∀ {k},Xe tyI S w W k->¬ k=vbx:=fun hk e=>by subst e;exact hnc hk.2
   have hm':=hm.far f (hne hf.p) (hne hf.g0) (fun h=>hne (hf.g1 h)) (fun u hu k hk=>hne (hf.row u hu k hk));have hwent:=Went.mk' (T:=tyI) (S:=fun k=>S k\/k=vbx) hm' ((hF.mono (S1:=fun k=>S k\/k=vbx) (fun k hk=>.inl hk)).trans f fun k hk=>.inl (.inr hk)) (hf.p.1.imp .inl id) (hf.g0.1.imp .inl id) (fun h=>(hf.g1 h).1.imp .inl id) (fun u hu k hk=>(hf.row u hu k hk).1.imp .inl id);refine ⟨(KeepsOthers.setCell _ _ _).from _,fun b c hb=>hb.setOther _ _ (fun e=>by subst e;exact absurd (hb.ty hvW) (by decide)),hwent.1.wide (fun k hk=>⟨?_,hk.2⟩) (fun _ hk=>hk.2),hwent.2,hvW.set 0 _⟩;rcases hk.1 with (h1|h1)|h1
   ·exact .inl h1
   ·subst h1;exact absurd hk.2 (Yf (hvW.set 0 (.int .i64 nv)) (by decide))
   ·exact .inr h1)
  clear hm hf hF hR hat hvW
  go_enter Tryz.func285,Tryz.ntmps285
  go_wp2;go_returns;exact ⟨rfl,hWE.out⟩
end
end Go.Proofs.YtmehfohpjigmmaaGreatDoor.Dc
namespace Go.Proofs
open Go.Shelf
def Tryz.laysM316_ren:Go.Shelf.Ren:=⟨fun|316=>74|n=>n,fun|9=>9|3=>3|4=>4|37=>34|0=>0|127=>199|5=>5|n=>n,fun|n=>n⟩
theorem Tryz.laysM316:Go.Proofs.LaysM.n316 Tryz.prog Tryz.laysM316_ren:={
 mixed:=by kernel_rfl
 f316:=Tryz.func74.trans (congrArg some (by kernel_rfl))
 t0:=Tryz.underlying0
 a0:=Tryz.isAgg0
 z0:=Tryz.sizeOf0
 v0:=Tryz.zeroValue0
 t3:=Tryz.underlying3
 a3:=Tryz.isAgg3
 z3:=Tryz.sizeOf3
 v3:=Tryz.zeroValue3
 t4:=Tryz.underlying4
 a4:=Tryz.isAgg4
 z4:=Tryz.sizeOf4
 v4:=Tryz.zeroValue4
 t9:=Tryz.underlying9
 a9:=Tryz.isAgg9
 z9:=Tryz.sizeOf9
 v9:=Tryz.zeroValue9
 t37:=Tryz.underlying34
 a37:=Tryz.isAgg34
 z37:=Tryz.sizeOf34
 v37:=Tryz.zeroValue34
 t127:=Tryz.underlying199
 a127:=Tryz.isAgg199
 z127:=Tryz.sizeOf199
 v127:=Tryz.zeroValue199
 t5:=Tryz.underlying5
 a5:=Tryz.isAgg5
 z5:=Tryz.sizeOf5
 v5:=Tryz.zeroValue5
 i0:=by kernel_rfl
 i3:=by kernel_rfl
 i4:=by kernel_rfl
 i5:=by kernel_rfl
 i9:=by kernel_rfl
 i37:=by kernel_rfl
 i127:=by kernel_rfl }
open Go.RowKit in
theorem Tryz.stringslite_Clone(s:ByteArray)(w:World)(hlim:s.size<=281474976710656) :
 Calls Tryz.prog 74 #[.string s] w fun e w'=>e=.returned (.string s)/\Below w.heap.size w w':=Any.stringslite_Clone Tryz.laysM316 s w hlim
end Go.Proofs
namespace Go.Proofs.YtmehfohpjigmmaaGreatDoor.Dc
open Zc
open Go.RowKit Go.Shelf
attribute [local go_sem] Oper.semAt_some
def Qn(s:Nat)(key:ByteArray)(r:List Nd):Option Nat:=r.findIdx? (Nd.is s key)
def Dc.hit(D:Dc)(s:Nat)(key:ByteArray):Option (Nat × Nat) :=
 match Qn s key (D.a.getD (s % D.a.length) []) with
 | some i=>some (0,i)
 | none=>if D.b=[] then none else match Qn s key (D.b.getD (s % D.b.length) []) with
   | some i=>some (1,i)
   | none=>none
theorem Kh{s:Nat}{key:ByteArray}{r:List Nd}{i:Nat}(h:Qn s key r=some i):∃ x,r[i]?=some x/\Nd.is s key x=true/\∀ q y,q<i->r[q]?=some y->Nd.is s key y=false:=by
 obtain ⟨hi,h1,h2⟩:=List.findIdx?_eq_some_iff_getElem.1 h;refine ⟨r[i],List.getElem?_eq_getElem hi,h1,fun q y hq hy=>?_⟩;obtain ⟨hq2,rfl⟩:=List.getElem?_eq_some_iff.1 hy
 simpa using h2 q hq
theorem Qo{s:Nat}{key:ByteArray}{r:List Nd}(h:Qn s key r=none):∀ x∈r,Nd.is s key x=false:=by
 intro x hx
 have:=List.findIdx?_eq_none_iff.1 h x hx
 simpa using this
theorem Vo{D:Dc}{s:Nat}{key:ByteArray}{j i:Nat}(h:D.hit s key=some (j,i)):Hit D s key j i:=by
 unfold Dc.hit at h
 cases h0:Qn s key (D.a.getD (s % D.a.length) []) with
 | some i0 =>
   rw [h0] at h;simp at h;obtain ⟨rfl,rfl⟩:=h;obtain ⟨x,h1,h2,h3⟩:=Kh h0;exact ⟨_,x,rfl,h1,h2,h3,fun j r hj=>absurd hj (Nat.not_lt_zero _)⟩
 | none =>
   rw [h0] at h;simp only at h
   by_cases hb:D.b=[]
   ·rw [if_pos hb] at h;cases h
   ·rw [if_neg hb] at h
    cases h1:Qn s key (D.b.getD (s % D.b.length) []) with
    | none=>rw [h1] at h;cases h
    | some i1 =>
      rw [h1] at h;simp at h;obtain ⟨rfl,rfl⟩:=h;obtain ⟨x,h2,h3,h4⟩:=Kh h1;refine ⟨_,x,by unfold Dc.rowsOf;rw [if_neg hb];rfl,h2,h3,h4,fun j r hj hr=>?_⟩;obtain rfl:j=0:=by omega
      have:r=D.a.getD (s % D.a.length) []:=by unfold Dc.rowsOf at hr;simpa using hr.symm
      rw [this];exact Qo h0
theorem hit_none{D:Dc}{s:Nat}{key:ByteArray}(h:D.hit s key=none):z1z D s key 2:=by
 unfold Dc.hit at h
 cases h0:Qn s key (D.a.getD (s % D.a.length) []) with
 | some i0=>rw [h0] at h;cases h
 | none =>
   rw [h0] at h;simp only at h;intro j r hj hr;unfold Dc.rowsOf at hr
   match j,hr with
   | 0,hr=>simp at hr;subst hr;exact Qo (by simpa using h0)
   | 1,hr =>
     by_cases hb:D.b=[]
     ·rw [if_pos hb] at hr;simp at hr
     ·rw [if_neg hb] at hr h;simp at hr;subst hr
      cases h1:Qn s key (D.b.getD (s % D.b.length) []) with
      | none=>exact Qo (by simpa using h1)
      | some i1=>rw [h1] at h;cases h
def Dc.node(D:Dc)(s:Nat)(key:ByteArray):Option Nd :=
 match D.hit s key with
 | some (j,i)=>((D.rowsOf s).getD j [])[i]?
 | none=>none
theorem P8{D:Dc}{s:Nat}{key:ByteArray}{j i:Nat}(h:D.hit s key=some (j,i)):∃ r y,(D.rowsOf s)[j]?=some r/\r[i]?=some y/\D.node s key=some y:=by
 obtain ⟨r,x,h1,h2,h3,_⟩:=Vo h;refine ⟨r,x,h1,h2,?_⟩;unfold Dc.node;rw [h];simp only;rw [List.getD_eq_getElem?_getD,h1];exact h2
def Dc.add(D:Dc)(x:Nd):Dc:=if D.b=[] then { D with a:=X4 D.a x,n:=D.n+1 } else { D with b:=X4 D.b x,n:=D.n+1 }
def Dc.setS(D:Dc)(s:Nat)(key:ByteArray)(v:Value):Dc :=
 match (D.step 1).hit s key with
 | some (j,i)=>(D.step 1).upd s j (Uw i v)
 | none=>((D.step 1).grown).add ⟨s,key,v⟩
def Dc.less(D:Dc):Dc:={ D with n:=D.n-1 }
def Dc.delS(D:Dc)(s:Nat)(key:ByteArray):Dc :=
 match (D.step 1).hit s key with
 | some (j,i)=>(((D.step 1).upd s j (·.eraseIdx i)).less).shrunk
 | none=>D.step 1
def Or:Option Nd->Value
 | some y=>y.v
 | none=>.int .i64 0
section
variable {S:Nat->Prop} {p seed:Nat} {D:Dc} {w:World}
theorem Oz{s j:Nat}{r:List Nd}{y:Nd}{i:Nat}(h1:(D.rowsOf s)[j]?=some r)(h2:r[i]?=some y){T:Ty}(ok:D.Ok T):y.fine T/\(∀ x∈r,x.fine T):=by
 have hm:=List.mem_of_getElem? h1
 have hf:∀ x∈r,x.fine T:=by
  unfold Dc.rowsOf at hm;rcases List.mem_cons.1 hm with rfl|h3
  ·intro x hx;obtain ⟨r0,h4,h5⟩:=On hx;exact ok.fine r0 (.inl h4) x h5
  ·by_cases hb:D.b=[]
   ·rw [if_pos hb] at h3;simp at h3
   ·rw [if_neg hb,List.mem_singleton] at h3;subst h3;intro x hx;obtain ⟨r0,h4,h5⟩:=On hx;exact ok.fine r0 (.inr h4) x h5
 exact ⟨hf y (List.mem_of_getElem? h2),hf⟩
theorem Oo(hsd:seed<4294967296)(h:Rep tyI w p S seed D)(ok:D.Ok tyI)(hn:D.n<=1000000)(key:ByteArray)(hk:key.size<=281474976710656) :
 Calls Tryz.prog 282 #[.pointer (some ⟨p,0,none⟩),.string key] w fun e w' =>
  e=.returned (.tuple #[Or ((D.step 1).node (Zi seed key.data.toList) key),.bool ((D.step 1).hit (Zi seed key.data.toList) key).isSome])/\Went tyI S w p seed (D.step 1) w':=by
 have hb0:Bl w (w.alloc (Obj.cells #[.int .i64 0] 2)):=(Below.refl _ _).alloc (Nat.le_refl _) _;have k0:=Blk.new w 2 #[.int .i64 0];have hw:=h.later hb0;obtain ⟨ok1,hn1⟩:=Vi ok 1
 cases hh:(D.step 1).hit (Zi seed key.data.toList) key with
 | none =>
   have hnd:(D.step 1).node (Zi seed key.data.toList) key=none:=by unfold Dc.node;rw [hh]
   have hF:=Yd hsd hw ok hn key hk 285 #[.pointer (some ⟨w.heap.size,0,none⟩)] none (fun j i h=>by cases h) (fun _=>hit_none hh) (fun _=>False) (fun j i h=>by cases h);have HF:=jY hF;have HK:=jY k0;have HN:=jY hnd;have HC:=jY hw.cells;clear hF hh k0 hnd;have hmf:∀ (fn:Fn) (first cap:Array Value) (w:World),(Instr.makeFunc fn first cap).run Tryz.prog w=.ok (.func fn first cap) w:=fun _ _ _ _=>rfl
   go_enter Tryz.func282,Tryz.ntmps282
   go_wp2_with fail;refine HF.out.mono ?_;rintro e w1 ⟨rfl,hw1,_⟩;have hq:=(hw1 trivial).blk HK.out HC.out (by decide);obtain ⟨c0,d0⟩:=Z4 hq;have HW:=jY (hw1 trivial);clear hw1 hq;go_wp2;go_ret2;rw [HN.out];exact ⟨rfl,Went.since hb0 HW.out⟩
 | some ji =>
   obtain ⟨j,i⟩:=ji;obtain ⟨r,y,h1,h2,h3⟩:=P8 hh;obtain ⟨⟨_,nv,hnv⟩,hfr⟩:=Oz h1 h2 ok1
   have hrl:r.length<=1000000:=by
    have h4:=X5 (D:=D.step 1) _ j r h1;have h5:=ok1.n;omega
   have hF:=Yd hsd hw ok hn key hk 285 #[.pointer (some ⟨w.heap.size,0,none⟩)] (some (j,i)) (fun j' i' h=>by cases h;exact Vo hh) (fun h=>by cases h) (Got S p seed (D.step 1) (w.alloc (Obj.cells #[.int .i64 0] 2)) w.heap.size nv)
    (fun j' i' h=>by cases h;exact Jh ok1 hw.cells h1 h2 hrl w.heap.size nv hnv _ k0)
   have HF:=jY hF;have HN:=jY h3;have HV:=jY hnv;clear hF hh k0 h3 hnv h1 h2 hfr;have hmf:∀ (fn:Fn) (first cap:Array Value) (w:World),(Instr.makeFunc fn first cap).run Tryz.prog w=.ok (.func fn first cap) w:=fun _ _ _ _=>rfl
   go_enter Tryz.func282,Tryz.ntmps282
   go_wp2_with fail;refine HF.out.mono ?_;rintro e w1 ⟨rfl,_,hw1⟩;obtain ⟨g1,g2,g3⟩:=hw1 rfl;obtain ⟨c0,d0⟩:=Z4 g3;have G1:=jY g1;have G2:=jY g2;clear hw1 g1 g2 g3;go_wp2;go_ret2;rw [HN.out];refine ⟨by simp only [Or];rw [HV.out];rfl,G1.out.wide (fun k hk=>⟨?_,hk.2⟩) (fun _ hk=>hk.2),(Far.of_below hb0).trans G2.out fun k hk=>?_⟩
   ·rcases hk.1 with h1|h1
    ·exact .inl h1
    ·exact .inr (Nat.le_trans hb0.size h1)
   ·rcases hk with h1|h1
    ·exact .inl h1
    ·exact .inr (by omega)
theorem Dn{W:World}(h:Went tyI S w p seed D W)(m:Nat):Went tyI S w p seed { D with n:=m } (W.setCell ⟨p,4,none⟩ (.int .i64 m)):=by
 obtain ⟨g0,g1,A1,va,vb,hm,hf,hc⟩:=h.1;have f:Far (fun k=>k=p) W (W.setCell ⟨p,4,none⟩ (.int .i64 m)):=(Far.refl _ _).set _ _ (.inl rfl);refine Went.mk' (g0:=g0) (g1:=g1) (A1:=A1) (va:=va) (vb:=vb) ⟨?_,hm.ta.past Qb f hm.dict,?_,hm.sep⟩ (h.2.trans f fun k hk=>by subst hk;exact hf.p.1) hf.p.1 hf.g0.1 (fun h=>(hf.g1 h).1) (fun v hv k hk=>(hf.row v hv k hk).1)
 ·have:=hm.dict.set 4 (.int .i64 m)
  simpa using this
 ·rcases hm.tb with h1|⟨h1,h2,h3,h4⟩
  ·exact .inl h1
  ·exact .inr ⟨h1,h2,h3,h4.past Qb f hm.dict⟩
theorem Vv{W:World}(h:Went tyI S w p seed D W):W.cell? ⟨p,4,none⟩=some (.int .i64 D.n)/\W.frozen? ⟨p,4,none⟩=false:=by
 obtain ⟨g0,g1,A1,va,vb,hm,hf,hc⟩:=h.1;exact ⟨hm.dict.cell 4,hm.dict.free 4⟩
end
section
variable {S:Nat->Prop} {p seed:Nat} {D:Dc} {w:World}
theorem Fx{W:World}{g g':Nat}{vs us:List Value}{rows rows':List (List Nd)}(h:TabAt tyI W g vs rows)(h':TabAt tyI W g' us rows')(hg:g≠g')(hs:∀ v∈vs,∀ u∈us,∀ k,v.ownBlock=some k->u.ownBlock≠some k):∀ k,Xa g vs k->¬ Xa g' us k:=by
 rintro k (rfl|⟨v,hv,hk⟩) (h2|⟨u,hu,hk2⟩)
 ·exact hg h2
 ·obtain ⟨r,hr⟩:=h'.mem hu;obtain ⟨c,hc⟩:=hr.blk hk2;exact absurd (h.blk.ty hc) (by decide)
 ·subst h2;obtain ⟨r,hr⟩:=h.mem hv;obtain ⟨c,hc⟩:=hr.blk hk;exact absurd (h'.blk.ty hc) (by decide)
 ·exact hs v hv u hu k hk hk2
theorem Qj{W:World}{g:Nat}{vs:List Value}{rows:List (List Nd)}{c:Array Value}(h:TabAt tyI W g vs rows)(hp:Blk W p tyI.d c):¬ Xa g vs p:=by
 rintro (rfl|⟨v,hv,hk⟩)
 ·exact absurd (hp.ty h.blk) (by decide)
 ·obtain ⟨r,hr⟩:=h.mem hv;obtain ⟨c,hc⟩:=hr.blk hk;exact absurd (hp.ty hc) (by decide)
theorem Qu{W W1 W':World}{g0 g1:Nat}{A1:Option Addr}{va vb:List Value}(hm:Mem tyI W p g0 g1 A1 va vb seed D)(hf:Foot (Xe tyI S w W) p g0 g1 va vb D)(hF:Far S w W)(hb1:Bl W W1)(x:Nd)
 (hP:PutI W1 (if D.b=[] then g0 else g1) (if D.b=[] then va else vb) (if D.b=[] then D.a else D.b) [x] 1 W') :
 Went tyI S w p seed (if D.b=[] then { D with a:=X4 D.a x } else { D with b:=X4 D.b x }) W':=by
 obtain ⟨vs',hT,hS,hI,hFP⟩:=hP;have hm1:=hm.later hb1
 by_cases hb:D.b=[]
 ·simp only [hb,if_true] at hT hI hFP ⊢
  have hvb:vb=[]:=by
   rcases hm.tb with ⟨_,h,_⟩|⟨h,_⟩
   ·exact h
   ·exact absurd hb h
  have hA:A1=none:=by
   rcases hm.tb with ⟨_,_,h⟩|⟨h,_⟩
   ·exact h
   ·exact absurd hb h
  subst hvb hA;refine Went.mk' (g0:=g0) (g1:=g1) (A1:=none) (va:=vs') (vb:=[]) ⟨?_,hT,.inl ⟨rfl,rfl,rfl⟩,by rw [List.append_nil];exact hS⟩ (((hF.then_below hb1).trans hFP fun k hk=>?_)) hf.p.1 hf.g0.1 (fun h=>absurd rfl h) fun v hv k hk=>?_
  ·have:=hFP.blk hm1.dict (Qj hm1.ta hm1.dict)
   simp only [hb] at this
   simpa [hb,Y7] using this
  ·rcases hk with rfl|⟨v,hv,hk⟩
   ·exact hf.g0.1
   ·exact (hf.row v (List.mem_append_left _ hv) k hk).1
  ·rw [List.append_nil] at hv;rcases hI v hv k hk with ⟨u0,h1,h2⟩|h1
   ·exact (hf.row u0 (List.mem_append_left _ h1) k h2).1
   ·exact .inr (Nat.le_trans hF.size (Nat.le_trans hb1.size h1))
 ·simp only [hb,if_false] at hT hI hFP ⊢;rcases hm1.tb with ⟨h,_⟩|⟨_,hA,hg,htb⟩
  ·exact absurd h hb
  have hne:X4 D.b x≠[]:=fun e=>hb (List.eq_nil_of_length_eq_zero (by have:=congrArg List.length e;rw [Y7] at this;simpa using this));have hsa:=fun v (hv:v∈va) u (hu:u∈vb) k hk=>Sep.apart hm.sep hv hu (k:=k) hk;refine Went.mk' (g0:=g0) (g1:=g1) (A1:=A1) (va:=va) (vb:=vs') ⟨?_,hm1.ta.far hFP (Fx hm1.ta htb (fun e=>hg e.symm) hsa),.inr ⟨hne,hA,hg,hT⟩,?_⟩ (((hF.then_below hb1).trans hFP fun k hk=>?_)) hf.p.1 hf.g0.1 (fun _=>(hf.g1 hb).1) fun v hv k hk=>?_
  ·have:=hFP.blk hm1.dict (Qj htb hm1.dict)
   simpa [Y7] using this
  ·refine hm.sep.left.join hS fun v hv u hu k hk hk2=>?_;rcases hI u hu k hk2 with ⟨u0,h1,h2⟩|h1
   ·exact hsa v hv u0 h1 k hk h2
   ·obtain ⟨r,hr⟩:=hm1.ta.mem hv
    have:=hr.lt hk
    omega
  ·rcases hk with rfl|⟨v,hv,hk⟩
   ·exact (hf.g1 hb).1
   ·exact (hf.row v (List.mem_append_right _ hv) k hk).1
  ·rcases List.mem_append.1 hv with h|h
   ·exact (hf.row v (List.mem_append_left _ h) k hk).1
   ·rcases hI v h k hk with ⟨u0,h1,h2⟩|h1
    ·exact (hf.row u0 (List.mem_append_right _ h1) k h2).1
    ·exact .inr (Nat.le_trans hF.size (Nat.le_trans hb1.size h1))
theorem U5(s:ByteArray)(hs:s.size<=281474976710656)(w:World):Calls Tryz.prog 45 #[.string s] w fun e w'=>e=.returned (.string s)/\Bl w w':=by
 have HC:=jY (Tryz.stringslite_Clone s w hs)
 go_enter Tryz.func45,Tryz.ntmps45
 go_wp2_with fail;refine HC.out.mono ?_;rintro e w1 ⟨rfl,hb1⟩;go_wp2;go_ret;exact ⟨rfl,hb1⟩
theorem Jj{T:Ty}(ok:D.Ok T):D.grown.Ok T/\D.grown.n=D.n:=by
 unfold Dc.grown
 split
 ·rename_i h;have hz:D.b=[]:=h.1;have h0:(List.replicate (Zg (2*D.n:Nat)) ([]:List Nd)).flatten=[]:=by simp
  refine ⟨⟨ok.a,fun _=>by simp [Dc.begin];exact Vp _,fun _=>?_,fun e=>?_,fun i hi=>?_,?_,fun r hr x hx=>?_⟩,rfl⟩
  ·show D.place<D.a.length;rw [ok.still hz]
   have:=Zm ok.a
   omega
  ·have h1:=Zm (Vp (2*D.n:Nat))
   have h2:(List.replicate (Zg (2*D.n:Nat)) ([]:List Nd)).length=0:=by
    rw [show List.replicate (Zg (2*D.n:Nat)) ([]:List Nd)=[] from e];rfl
   rw [List.length_replicate] at h2;omega
  ·have hi':i<D.place:=hi;rw [ok.still hz] at hi';omega
  ·have:=ok.n
   rw [hz] at this;show D.n=D.a.flatten.length+(List.replicate (Zg (2*D.n:Nat)) ([]:List Nd)).flatten.length;rw [h0]
   simpa using this
  ·rcases hr with hr|hr
   ·exact ok.fine r (.inl hr) x hx
   ·rw [List.eq_of_mem_replicate hr] at hx;simp at hx
 ·exact ⟨ok,rfl⟩
def Dc.ins(D:Dc)(x:Nd):Dc:=if D.b=[] then { D with a:=X4 D.a x } else { D with b:=X4 D.b x }
theorem y2k(D:Dc)(x:Nd):(D.ins x).n=D.n:=by unfold Dc.ins;split <;> rfl
theorem z2k(D:Dc)(x:Nd):{ D.ins x with n:=D.n+1 }=D.add x:=by unfold Dc.ins Dc.add;split <;> rfl
theorem z1a{w2:World}(h2:Went tyI S w p seed D w2)(ok:D.Ok tyI)(hn:D.n+1<=1000000)(x:Nd)(hx:x.fine tyI) :
 ∃ tv:Value,(∃ A n,tv=.slice A n n)/\(∀ W,Bl w2 W->Hid (Calls Tryz.prog 177 #[.pointer (some ⟨p,0,none⟩)] W fun e w'=>e=.returned tv/\w'=W)) /\
  (∀ W,Bl w2 W->Hid (Calls Tryz.prog 178 #[tv,.slice (some ⟨W.heap.size,0,none⟩) 1 1] (W.alloc (.cells x.cells.toArray 288)) fun e W'=>e=.returned (.tuple #[])/\Went tyI S w p seed (D.ins x) W')):=by
 obtain ⟨g0,g1,A1,va,vb,hm,hf,hc⟩:=h2.1;refine ⟨if D.b=[] then .slice (some ⟨g0,0,none⟩) D.a.length D.a.length else .slice A1 D.b.length D.b.length,?_,fun W hW=>?_,fun W hW=>?_⟩
 ·split
  ·exact ⟨_,_,rfl⟩
  ·exact ⟨_,_,rfl⟩
 ·have hN:=O2 (S:=Xe tyI S w w2) (hm.later hW) hf (fun k hk=>(hc k hk).same (hW.block k (hc k hk).lt))
  have e:(bif D.moving then Value.slice A1 D.b.length D.b.length else .slice (some ⟨g0,0,none⟩) D.a.length D.a.length)=(if D.b=[] then .slice (some ⟨g0,0,none⟩) D.a.length D.a.length else .slice A1 D.b.length D.b.length):=by
   cases hmv:D.moving with
   | false=>rw [if_pos ((Yj D).1 hmv)];rfl
   | true=>rw [if_neg (z9y hmv)];rfl
  rw [e] at hN;exact jY hN
 ·have hb1:Bl w2 (W.alloc (.cells x.cells.toArray 288)):=hW.alloc hW.size _;have hm1:=hm.later hb1
  have hrow:RowAt tyI (W.alloc (.cells x.cells.toArray 288)) (.slice (some ⟨W.heap.size,0,none⟩) 1 1) [x]:=by
   have:=World.ownsRow_lit (base:=0) (e:=288) (size:=3) W x.cells.toArray 1 (Nat.zero_le _) (by unfold maxLen;omega) rfl
   simpa [RowAt,Yz,tyI] using this
  have hfl:=ok.n
  by_cases hb:D.b=[]
  ·have hP:=Us g0 va D.a _ [x] _ hm1.ta hm1.sep.left ok.a hrow (fun u hu k hk h=>by
    obtain ⟨r,hr⟩:=hm.ta.mem hu;have h1:=hr.lt hk;have h2:=hW.size;simp [Value.ownBlock] at h
    omega) (fun y hy=>by simp at hy;subst hy;exact hx) (by simp only [List.length_singleton];omega)
   refine jY ?_;rw [if_pos hb];refine hP.mono fun e W' ⟨he,hPI⟩=>⟨he,?_⟩;exact Qu hm hf h2.2 hb1 x (by simpa only [hb,if_true,List.length_singleton] using hPI)
  ·rcases hm1.tb with ⟨h,_⟩|⟨_,hA,hg,htb⟩
   ·exact absurd h hb
   have hP:=Us g1 vb D.b _ [x] _ htb hm1.sep.right (ok.b hb) hrow (fun u hu k hk h=>by
    rcases hm.tb with ⟨h5,_⟩|⟨_,_,_,htb0⟩
    ·exact absurd h5 hb
    obtain ⟨r,hr⟩:=htb0.mem hu;have h1:=hr.lt hk;have h2:=hW.size;simp [Value.ownBlock] at h
    omega) (fun y hy=>by simp at hy;subst hy;exact hx) (by simp only [List.length_singleton];omega)
   refine jY ?_;rw [if_neg hb,hA];refine hP.mono fun e W' ⟨he,hPI⟩=>⟨he,?_⟩;exact Qu hm hf h2.2 hb1 x (by simpa only [hb,if_false,List.length_singleton] using hPI)
theorem M8(hsd:seed<4294967296)(h:Rep tyI w p S seed D)(ok:D.Ok tyI)(hn:D.n+1<=1000000)(key:ByteArray)(hk:key.size<=281474976710656)(nv:Int) :
 Calls Tryz.prog 157 #[.pointer (some ⟨p,0,none⟩),.string key,.int .i64 nv] w fun e w' =>
  e=.returned (.bool (!((D.step 1).hit (Zi seed key.data.toList) key).isSome))/\Went tyI S w p seed (D.setS (Zi seed key.data.toList) key (.int .i64 nv)) w':=by
 have hb0:Bl w (w.alloc (Obj.cells #[.int .i64 nv] 2)):=(Below.refl _ _).alloc (Nat.le_refl _) _;have k0:=Blk.new w 2 #[.int .i64 nv];have hw:=h.later hb0;obtain ⟨ok1,hn1⟩:=Vi ok 1;have hmf:∀ (fn:Fn) (first cap:Array Value) (w:World),(Instr.makeFunc fn first cap).run Tryz.prog w=.ok (.func fn first cap) w:=fun _ _ _ _=>rfl;have hsl:=Mc seed key.data.toList
 cases hh:(D.step 1).hit (Zi seed key.data.toList) key with
 | some ji =>
   obtain ⟨j,i⟩:=ji;have hd:D.setS (Zi seed key.data.toList) key (.int .i64 nv)=(D.step 1).upd (Zi seed key.data.toList) j (Uw i (.int .i64 nv)):=by unfold Dc.setS;rw [hh]
   rw [hd];obtain ⟨r,y,h1,h2,h3⟩:=P8 hh
   have hrl:r.length<=1000000:=by
    have h4:=X5 (D:=D.step 1) _ j r h1;have h5:=ok1.n;omega
   have hF:=Yd hsd hw ok (by omega) key hk 175 #[.pointer (some ⟨w.heap.size,0,none⟩)] (some (j,i)) (fun j' i' h=>by cases h;exact Vo hh) (fun h=>by cases h) (fun W'=>Went tyI S (w.alloc (Obj.cells #[.int .i64 nv] 2)) p seed ((D.step 1).upd (Zi seed key.data.toList) j (Uw i (.int .i64 nv))) W')
    (fun j' i' h=>by cases h;exact I1 ok1 hw.cells h1 h2 hrl w.heap.size nv k0)
   have HF:=jY hF;clear hF hh k0 h3 h1 h2 hd
   go_enter Tryz.func157,Tryz.ntmps157
   go_wp2_with fail;refine HF.out.mono ?_;rintro e w1 ⟨rfl,_,hw1⟩;have HW:=jY (hw1 rfl);clear hw1;go_wp2;go_ret;exact ⟨rfl,Went.since hb0 HW.out⟩
 | none =>
   have hd:D.setS (Zi seed key.data.toList) key (.int .i64 nv)=((D.step 1).grown).add ⟨Zi seed key.data.toList,key,.int .i64 nv⟩:=by unfold Dc.setS;rw [hh]
   rw [hd];obtain ⟨ok2,hn2⟩:=Jj ok1;have hF:=Yd hsd hw ok (by omega) key hk 175 #[.pointer (some ⟨w.heap.size,0,none⟩)] none (fun j i h=>by cases h) (fun _=>hit_none hh) (fun _=>False) (fun j i h=>by cases h);have HF:=jY hF;have HK:=jY k0;have HC:=jY hw.cells;clear hF hh k0 hd;have HNM:=fun W (hR:Rep tyI W p (Xe tyI S (w.alloc (Obj.cells #[.int .i64 nv] 2)) W) seed (D.step 1).grown)=>jY (X6 hsd hR key hk);generalize Zi seed key.data.toList=s at *
   go_enter Tryz.func157,Tryz.ntmps157
   go_wp2_with fail;refine HF.out.mono ?_;rintro e w1 ⟨rfl,hw1,_⟩;have hW1:=hw1 trivial;have hG:=Ji hW1.1 (by omega);have HW1:=jY hW1;have HG:=jY hG;clear hw1 hW1 hG;go_wp2_with fail;refine HG.out.mono ?_;rintro e w2 ⟨rfl,hw2⟩;have hW2:=HW1.out.trans hw2;obtain ⟨tv,⟨At,nt,rfl⟩,HNEW,HPUT⟩:=z1a hW2 ok2 (by omega) ⟨s,key,.int .i64 nv⟩ ⟨hsl,nv,rfl⟩;have hvb:=hW2.blk HK.out HC.out (by decide);have HVB:=jY hvb;have B0:Bl w2 w2.drew:=(Below.refl _ _).drew;have HW2:=jY hW2;obtain ⟨v0,v1⟩:=Z4 hvb;have HCL:=fun W=>jY (U5 key hk W);clear hw2 hW2 hvb;unfold Nd.cells at HPUT;go_wp2
   go_region_law (go_simp;first
    | (go_at_call 45;refine (HCL _).out.mono ?_;rintro e w3 ⟨rfl,hb3⟩;have B3:Bl w2 w3:=Mr hb3;obtain ⟨v3,x3⟩:=Z4 (HVB.out.later B3))
    | (go_at_call 179;refine (HNM _ (HW2.out.later B3).1).out.mono ?_;rintro e w4 ⟨rfl,hb4⟩;have B4:Bl w2 w4:=B3.trans (hb4.mono B3.size);obtain ⟨v4,x4⟩:=Z4 (HVB.out.later B4))
    | (go_at_call 177;refine (HNEW _ (by first|exact B0|exact B3|exact B4|exact B4.alloc B4.size _)).out.mono ?_;rintro e w5 ⟨rfl,rfl⟩)
    | (go_at_call 178;refine (HPUT _ B4).out.mono ?_;rintro e w6 ⟨rfl,hW6⟩))
   all_goals (
    obtain ⟨q0,q1⟩:=Vv hW6;rw [y2k] at q0;have hN:=Dn hW6 ((D.step 1).grown.n+1);rw [z2k] at hN;have HN:=jY hN;have hb1:((D.step 1).grown.n:Int)+1<=1000000:=by omega
    clear hN hW6;go_wp2;go_ret;refine ⟨rfl,Went.since hb0 ?_⟩
    have:=HN.out
    rwa [show (((D.step 1).grown.n+1:Nat):Int)=(D.n:Int)+1 by omega] at this)
def Mq:Dc:=⟨List.replicate 4 [],[],0,0⟩
theorem y1e(T:Ty):Mq.Ok T:=⟨by decide +kernel,fun h=>absurd rfl h,fun h=>absurd rfl h,fun _=>rfl,fun i hi=>absurd hi (Nat.not_lt_zero _),rfl,fun r hr x hx=>by
 rcases hr with hr|hr
 ·rw [List.eq_of_mem_replicate hr] at hx;simp at hx
 ·simp [Mq] at hr⟩
def fresh(T:Ty)(w W:World)(k:Nat):Prop:=Xe T (fun _=>False) w W k
theorem V4(sd:Nat)(w:World):Calls Tryz.prog 143 #[.int .u32 sd] w fun e w'=>∃ q,e=.returned (.pointer (some ⟨q,0,none⟩))/\Rep tyI w' q (fresh tyI w w') sd Mq/\Bl w w':=by
 obtain ⟨i0,hi0,hz0,hz1,hz2⟩:=info_parts Oq;have hmk:=fun W=>run_make (P:=Tryz.prog) W 259 289 i0 _ Tryz.underlying259 hi0 hz0 .i64 .i64 4 4 (by omega) (Int.le_refl _) (by rw [hz2];omega) (by omega);rw [hz1] at hmk;simp only [Int.reduceToNat,Nat.mul_one] at hmk
 go_enter Tryz.func143,Tryz.ntmps143
 go_wp2;go_returns;refine ⟨_,rfl,?_,((Below.refl _ _).alloc (Nat.le_refl _) _).alloc (by simp) _⟩;have h1:=(Blk.new w 289 (madeCells #[Value.slice none 0 0] 4)).alloc (Obj.cells #[Value.slice (some { block:=w.heap.size,off:=0 }) 4 4,Value.slice none 0 0,Value.int IntKind.u32 ↑sd,Value.int IntKind.i64 0,Value.int IntKind.i64 0] 262);have h2:=Blk.new (w.alloc (Obj.cells (madeCells #[Value.slice none 0 0] 4) 289)) 262 #[Value.slice (some { block:=w.heap.size,off:=0 }) 4 4,Value.slice none 0 0,Value.int IntKind.u32 ↑sd,Value.int IntKind.i64 0,Value.int IntKind.i64 0];rw [World.size_alloc] at h2
 have hmc:madeCells #[Value.slice none 0 0] 4=(List.replicate 4 (Value.slice none 0 0)).toArray:=by
  rw [<- toList_madeCells_one]
 have hW:=Went.mk' (T:=tyI) (S:=fun _=>False) (W:=w) (g0:=w.heap.size) (g1:=0) (A1:=none) (va:=List.replicate 4 (.slice none 0 0)) (vb:=[]) (D:=Mq) (seed:=sd) ⟨h2,⟨by rw [<- hmc];exact h1,rfl,fun i v r hv hr=>?_⟩,.inl ⟨rfl,rfl,rfl⟩,?_⟩
  (Far.of_below (((Below.refl _ _).alloc (Nat.le_refl _) _).alloc (by simp) _)) (.inr (by simp)) (.inr (Nat.le_refl _)) (fun h=>absurd rfl h) (fun v hv k hk=>?_)
 ·exact hW.1
 ·obtain ⟨hi,rfl⟩:=List.getElem?_eq_some_iff.1 hv;obtain ⟨hi2,rfl⟩:=List.getElem?_eq_some_iff.1 hr;simp only [Mq,List.getElem_replicate];exact RowAt.nil _ _
 ·refine Sep.none fun v hv=>?_;rw [List.append_nil] at hv;rw [List.eq_of_mem_replicate hv];rfl
 ·rw [List.append_nil] at hv;rw [List.eq_of_mem_replicate hv] at hk;simp [Value.ownBlock] at hk
end
end Go.Proofs.YtmehfohpjigmmaaGreatDoor.Dc
namespace Go.Proofs.YtmehfohpjigmmaaGreatDoor.Dc
open Zc
open Go.RowKit Go.Shelf
def Dc.nodes(D:Dc):List Nd:=D.a.flatten++D.b.flatten
structure Inv (T:Ty) (seed:Nat) (D:Dc):Prop where
 ok:D.Ok T
 sum:∀ x∈D.nodes,x.sum=Zi seed x.key.data.toList
 pa:∀ (i:Nat) r,D.a[i]?=some r->∀ x∈r,x.sum % D.a.length=i
 pb:∀ (i:Nat) r,D.b[i]?=some r->∀ x∈r,x.sum % D.b.length=i
 uniq:(D.nodes.map Nd.key).Nodup
theorem M9(rows:List (List Nd)):∀ (i:Nat) (r':List Nd),i<rows.length->(rows.set i r').flatten.Perm (r'++(rows.set i []).flatten):=by
 induction rows with
 | nil=>intro i r' h;simp at h
 | cons y rows ih =>
   intro i r' h
   cases i with
   | zero=>simp
   | succ i =>
     have:=ih i r' (by simpa using h)
     simp only [List.set_cons_succ,List.flatten_cons];refine (this.append_left y).trans ?_;rw [<- List.append_assoc,<- List.append_assoc];exact List.perm_append_comm.append_right _
theorem Pc(rows:List (List Nd))(i:Nat)(h:i<rows.length):rows.flatten.Perm (rows.getD i []++(rows.set i []).flatten):=by
 have:=M9 rows i (rows.getD i []) h
 rwa [show rows.set i (rows.getD i [])=rows by
  rw [List.getD_eq_getElem?_getD,List.getElem?_eq_getElem h]
  exact List.set_getElem_self h] at this
theorem Mv(rows:List (List Nd))(x:Nd)(h:0<rows.length):(X4 rows x).flatten.Perm (x :: rows.flatten):=by
 have hlt:x.sum % rows.length<rows.length:=Nat.mod_lt _ h;unfold X4;refine (M9 rows _ _ hlt).trans ?_;refine List.Perm.trans ?_ ((Pc rows _ hlt).symm.cons x);rw [List.append_assoc];exact List.perm_middle
theorem z4h(xs:List Nd):∀ rows:List (List Nd),0<rows.length->(Yi rows xs).flatten.Perm (xs++rows.flatten):=by
 induction xs with
 | nil=>intro rows _;exact List.Perm.refl _
 | cons x xs ih =>
   intro rows h;refine (ih (X4 rows x) (by rw [Y7];exact h)).trans ?_;refine ((Mv rows x h).append_left xs).trans ?_;exact List.perm_middle
theorem Qk(rows:List (List Nd))(x:Nd)(hp:∀ (i:Nat) r,rows[i]?=some r->∀ y∈r,y.sum % rows.length=i):∀ (i:Nat) r,(X4 rows x)[i]?=some r->∀ y∈r,y.sum % (X4 rows x).length=i:=by
 intro i r hr y hy;rw [Y7];unfold X4 at hr;rw [List.getElem?_set] at hr
 split at hr
 ·rename_i e
  split at hr
  ·cases hr
   rcases List.mem_append.1 hy with h|h
   ·rw [List.getD_eq_getElem?_getD] at h
    cases hg:rows[x.sum % rows.length]? with
    | none=>rw [hg] at h;simp at h
    | some r0=>rw [hg] at h;rw [<- e];exact hp _ r0 hg y h
   ·simp at h;subst h;exact e
  ·cases hr
 ·exact hp i r hr y hy
theorem Kg(xs:List Nd):∀ rows:List (List Nd),(∀ (i:Nat) r,rows[i]?=some r->∀ y∈r,y.sum % rows.length=i)->∀ (i:Nat) r,(Yi rows xs)[i]?=some r->∀ y∈r,y.sum % (Yi rows xs).length=i:=by
 induction xs with
 | nil=>intro rows h;exact h
 | cons x xs ih=>intro rows h;exact ih (X4 rows x) (Qk rows x h)
theorem z4d(rows:List (List Nd))(h:∀ i,i<rows.length->rows.getD i []=[]):rows.flatten=[]:=List.eq_nil_of_length_eq_zero (Om rows h)
section
variable {T:Ty} {seed:Nat} {D:Dc}
theorem Jn(ok:D.Ok T)(hb:D.b≠[]):D.move1.nodes.Perm D.nodes:=by
 have hp:=ok.place hb;have hbl:=Zm (ok.b hb);have h1:=z4h (D.a.getD D.place []) D.b (by omega);have h2:=Pc D.a D.place hp;unfold Dc.move1 Dc.nodes
 split
 ·rename_i hl
  have h0:(D.a.set D.place []).flatten=[]:=z4d _ fun i hi=>by
   rw [List.length_set] at hi
   by_cases e:i=D.place
   ·subst e;exact Um _ _
   ·rw [Vx _ _ _ _ e];exact ok.past i (by omega)
  rw [h0,List.append_nil] at h2;simp only [List.flatten_nil,List.append_nil];exact h1.trans (h2.symm.append_right _)
 ·show ((D.a.set D.place []).flatten++(Yi D.b (D.a.getD D.place [])).flatten).Perm (D.a.flatten++D.b.flatten);refine (h1.append_left _).trans ?_;rw [<- List.append_assoc];exact (List.perm_append_comm.trans h2.symm).append_right _
theorem Inv.of_perm{D':Dc}(h:Inv T seed D)(hp:D'.nodes.Perm D.nodes)(ok:D'.Ok T)(pa:∀ (i:Nat) r,D'.a[i]?=some r->∀ x∈r,x.sum % D'.a.length=i)(pb:∀ (i:Nat) r,D'.b[i]?=some r->∀ x∈r,x.sum % D'.b.length=i):Inv T seed D' :=
 ⟨ok,fun x hx=>h.sum x (hp.mem_iff.1 hx),pa,pb,(hp.map Nd.key).nodup_iff.2 h.uniq⟩
theorem Inv.move1(h:Inv T seed D)(hb:D.b≠[]):Inv T seed D.move1:=by
 refine h.of_perm (Jn h.ok hb) (h.ok.move1 hb) ?_ ?_
 ·unfold Dc.move1
  split
  ·exact Kg _ _ h.pb
  ·intro i r hr x hx;simp only [List.length_set];simp only [List.getElem?_set] at hr
   split at hr
   ·split at hr
    ·cases hr;simp at hx
    ·cases hr
   ·exact h.pa i r hr x hx
 ·unfold Dc.move1
  split
  ·intro i r hr;simp at hr
  ·exact Kg _ _ h.pb
theorem Inv.run(h:Inv T seed D):∀ k,k<=D.left->Inv T seed (Dc.run k D)/\(Dc.run k D).nodes.Perm D.nodes:=by
 intro k
 induction k with
 | zero=>intro _;exact ⟨h,List.Perm.refl _⟩
 | succ k ih =>
   intro hk;obtain ⟨h1,h2⟩:=ih (by omega);obtain ⟨_,_,_,h3⟩:=Vj h.ok k (by omega);obtain ⟨h4,_⟩:=h3 (by omega);exact ⟨h1.move1 h4,(Jn h1.ok h4).trans h2⟩
theorem Inv.step(h:Inv T seed D)(n:Nat):Inv T seed (D.step n)/\(D.step n).nodes.Perm D.nodes:=h.run _ (Nat.min_le_right _ _)
theorem Qd(hb:D.b=[])(m:Nat):(D.begin m).nodes=D.nodes:=by
 unfold Dc.nodes Dc.begin;rw [hb];simp
theorem Cc:D.grown.nodes=D.nodes:=by
 unfold Dc.grown
 split
 ·rename_i h;exact Qd h.1 _
 ·rfl
theorem Dl:D.shrunk.nodes=D.nodes:=by
 unfold Dc.shrunk
 split
 ·rename_i h;exact Qd h.1 _
 ·rfl
theorem z6h(m:Nat):∀ (i:Nat) r,(D.begin m).b[i]?=some r->∀ x∈r,x.sum % (D.begin m).b.length=i:=by
 intro i r hr x hx;rw [List.eq_of_mem_replicate (List.mem_of_getElem? hr)] at hx;simp at hx
theorem z6g(ok:D.Ok T)(hb:D.b=[])(m:Nat):(D.begin m).Ok T:=by
 have h1:=Zm (Vp (m:Nat))
 have hne:(D.begin m).b≠[]:=fun e=>by
  have h2:(List.replicate (Zg m) ([]:List Nd)).length=0:=by
   rw [show List.replicate (Zg m) ([]:List Nd)=[] from e];rfl
  rw [List.length_replicate] at h2;omega
 have hs:=ok.still hb;refine ⟨ok.a,fun _=>by simp [Dc.begin];exact Vp _,fun _=>?_,fun e=>absurd e hne,fun i hi=>?_,?_,fun r hr x hx=>?_⟩
 ·show D.place<D.a.length
  have:=Zm ok.a
  omega
 ·have hi':i<D.place:=hi;omega
 ·have:=ok.n
  rw [hb] at this;show D.n=D.a.flatten.length+(List.replicate (Zg m) ([]:List Nd)).flatten.length
  simpa using this
 ·rcases hr with hr|hr
  ·exact ok.fine r (.inl hr) x hx
  ·rw [List.eq_of_mem_replicate hr] at hx;simp at hx
theorem Inv.begin(h:Inv T seed D)(hb:D.b=[])(m:Nat):Inv T seed (D.begin m) :=
 h.of_perm (by rw [Qd hb]) (z6g h.ok hb m) h.pa (z6h m)
theorem Inv.grown(h:Inv T seed D):Inv T seed D.grown:=by
 unfold Dc.grown
 split
 ·rename_i e;exact h.begin e.1 _
 ·exact h
theorem Inv.shrunk(h:Inv T seed D):Inv T seed D.shrunk:=by
 unfold Dc.shrunk
 split
 ·rename_i e;exact h.begin e.1 _
 ·exact h
theorem Inv.in_rows(h:Inv T seed D){x:Nd}(hx:x∈D.nodes):∃ j r,j<2/\(D.rowsOf x.sum)[j]?=some r/\x∈r:=by
 rcases List.mem_append.1 hx with h1|h1
 ·obtain ⟨r,hr,hx⟩:=List.mem_flatten.1 h1;obtain ⟨i,hi⟩:=List.getElem?_of_mem hr
  have:=h.pa i r hi x hx
  refine ⟨0,r,by omega,?_,hx⟩;unfold Dc.rowsOf;rw [this,List.getD_eq_getElem?_getD,hi];rfl
 ·obtain ⟨r,hr,hx⟩:=List.mem_flatten.1 h1;obtain ⟨i,hi⟩:=List.getElem?_of_mem hr
  have:=h.pb i r hi x hx
  have hb:D.b≠[]:=fun e=>by rw [e] at hr;simp at hr
  refine ⟨1,r,by omega,?_,hx⟩;unfold Dc.rowsOf;rw [if_neg hb,this];show some (D.b.getD i [])=some r;rw [List.getD_eq_getElem?_getD,hi];rfl
theorem z1h{s j:Nat}{r:List Nd}(hr:(D.rowsOf s)[j]?=some r){x:Nd}(hx:x∈r):x∈D.nodes:=by
 have hm:=List.mem_of_getElem? hr;unfold Dc.rowsOf at hm
 have key:∀ (rows:List (List Nd)) i,x∈rows.getD i []->x∈rows.flatten:=fun rows i h=>by
  obtain ⟨r0,h1,h2⟩:=On h;exact List.mem_flatten.2 ⟨r0,h1,h2⟩
 rcases List.mem_cons.1 hm with rfl|h1
 ·exact List.mem_append_left _ (key _ _ hx)
 ·by_cases hb:D.b=[]
  ·rw [if_pos hb] at h1;simp at h1
  ·rw [if_neg hb,List.mem_singleton] at h1;subst h1;exact List.mem_append_right _ (key _ _ hx)
theorem z7b{s:Nat}{key:ByteArray}{x:Nd}:Nd.is s key x=true↔x.sum=s/\x.key=key:=by unfold Nd.is;simp
theorem Inv.hit_none(h:Inv T seed D){key:ByteArray}(hh:D.hit (Zi seed key.data.toList) key=none):∀ x∈D.nodes,x.key≠key:=by
 intro x hx e;obtain ⟨j,r,hj,hr,hxr⟩:=h.in_rows hx;have hs:=h.sum x hx;rw [e] at hs;rw [hs] at hr;have h1:=Go.Proofs.YtmehfohpjigmmaaGreatDoor.Dc.hit_none hh j r hj hr x hxr;have h2:Nd.is (Zi seed key.data.toList) key x=true:=z7b.2 ⟨hs,e⟩;rw [h2] at h1
 cases h1
theorem Jk{key:ByteArray}{s j i:Nat}(hh:D.hit s key=some (j,i)):∃ r y,(D.rowsOf s)[j]?=some r/\r[i]?=some y/\D.node s key=some y/\y∈D.nodes/\y.key=key/\y.sum=s:=by
 obtain ⟨r,y,h1,h2,h3⟩:=P8 hh;obtain ⟨r',y',h4,h5,h6,_⟩:=Vo hh;rw [h1] at h4
 cases h4
 rw [h2] at h5
 cases h5
 obtain ⟨h7,h8⟩:=z7b.1 h6;exact ⟨r,y,h1,h2,h3,z1h h1 (List.mem_of_getElem? h2),h8,h7⟩
theorem z9p(D:Dc)(s j:Nat)(f:List Nd->List Nd):(D.upd s j f).n=D.n:=by unfold Dc.upd;split <;> rfl
theorem I2(rows:List (List Nd))(k:Nat)(r r':List Nd)(hk:rows[k]?=some r)(hs:∀ x∈r',∃ y∈r,x.sum=y.sum)(hp:∀ (i:Nat) r,rows[i]?=some r->∀ y∈r,y.sum % rows.length=i) :
 ∀ (i:Nat) r0,(rows.set k r')[i]?=some r0->∀ y∈r0,y.sum % (rows.set k r').length=i:=by
 intro i r0 hr y hy;rw [List.length_set];rw [List.getElem?_set] at hr
 split at hr
 ·rename_i e
  split at hr
  ·cases hr
   obtain ⟨z,h1,h2⟩:=hs y hy;rw [h2,<- e];exact hp k r hk z h1
  ·cases hr
 ·exact hp i r0 hr y hy
theorem I8{a b:List Nd}(h:a.Perm b):a.length=b.length:=h.length_eq
theorem Inv.upd(h:Inv T seed D){s j:Nat}{r:List Nd}(hr:(D.rowsOf s)[j]?=some r)(hne:r≠[])(f:List Nd->List Nd)(hf:∀ x∈f r,(∃ y∈r,x.sum=y.sum/\x.key=y.key)/\T.ok x.v)(hu:((f r).map Nd.key).Sublist (r.map Nd.key))
 (m:Nat) (hm:m+r.length=D.n+(f r).length):Inv T seed { D.upd s j f with n:=m }/\∃ rest,D.nodes.Perm (r++rest)/\(D.upd s j f).nodes.Perm (f r++rest):=by
 have hal:=Zm h.ok.a
 have hfine:∀ x∈f r,(∀ y∈r,y.fine T)->x.fine T:=fun x hx hy=>by
  obtain ⟨⟨y,h1,h2,_⟩,h3⟩:=hf x hx;exact ⟨by rw [h2];exact (hy y h1).1,h3⟩
 have hsums:∀ x∈f r,∃ y∈r,x.sum=y.sum:=fun x hx=>by
  obtain ⟨⟨y,h1,h2,_⟩,_⟩:=hf x hx;exact ⟨y,h1,h2⟩
 have fin:∀ (D':Dc) (rest:List Nd),D'.n=m->D.nodes.Perm (r++rest)->D'.nodes.Perm (f r++rest)->(D'.n=D'.a.flatten.length+D'.b.flatten.length->D'.Ok T) ->
  (∀ (i:Nat) r,D'.a[i]?=some r->∀ x∈r,x.sum % D'.a.length=i)->(∀ (i:Nat) r,D'.b[i]?=some r->∀ x∈r,x.sum % D'.b.length=i)->Inv T seed D':=fun D' rest hn h1 h2 hok pa pb=>by
  refine ⟨hok ?_,fun x hx=>?_,pa,pb,?_⟩
  ·have h3:=I8 h1;have h4:=I8 h2;have h5:=h.ok.n;have e1:D.nodes.length=D.a.flatten.length+D.b.flatten.length:=by unfold Dc.nodes;rw [List.length_append]
   have e2:D'.nodes.length=D'.a.flatten.length+D'.b.flatten.length:=by unfold Dc.nodes;rw [List.length_append]
   rw [List.length_append] at h3 h4;omega
  ·rcases List.mem_append.1 (h2.mem_iff.1 hx) with h3|h3
   ·obtain ⟨⟨y,h4,h5,h6⟩,_⟩:=hf x h3;rw [h5,h6];exact h.sum y (h1.mem_iff.2 (List.mem_append_left _ h4))
   ·exact h.sum x (h1.mem_iff.2 (List.mem_append_right _ h3))
  ·refine (h2.map Nd.key).nodup_iff.2 ?_;have h3:=(h1.map Nd.key).nodup_iff.1 h.uniq;rw [List.map_append] at h3 ⊢;exact h3.sublist (hu.append_right _)
 by_cases hj:j=0
 ·subst hj;have hre:r=D.a.getD (s % D.a.length) []:=by unfold Dc.rowsOf at hr;simpa using hr.symm
  have hlt:s % D.a.length<D.a.length:=Nat.mod_lt _ (by omega);have hk:D.a[s % D.a.length]?=some r:=by rw [hre,List.getD_eq_getElem?_getD,List.getElem?_eq_getElem hlt];rfl
  have hrm:r∈D.a:=List.mem_of_getElem? hk;have p1:=Pc D.a _ hlt;rw [<- hre] at p1;have p2:=M9 D.a _ (f r) hlt;have hd:D.upd s 0 f={ D with a:=D.a.set (s % D.a.length) (f r) }:=by unfold Dc.upd;rw [if_pos rfl,<- hre]
  have q1:D.nodes.Perm (r++((D.a.set (s % D.a.length) []).flatten++D.b.flatten)):=by
   unfold Dc.nodes;rw [<- List.append_assoc];exact p1.append_right _
  have q2:(D.upd s 0 f).nodes.Perm (f r++((D.a.set (s % D.a.length) []).flatten++D.b.flatten)):=by
   rw [hd];unfold Dc.nodes;rw [<- List.append_assoc];exact p2.append_right _
  refine ⟨fin _ _ rfl q1 q2 (fun hn=>?_) ?_ ?_,_,q1,q2⟩
  ·rw [hd] at hn ⊢;refine ⟨by simp only [List.length_set];exact h.ok.a,h.ok.b,fun e=>by simp only [List.length_set];exact h.ok.place e,h.ok.still,fun i hi=>?_,hn,fun r0 hr0 x hx=>?_⟩
   ·have hi':i<D.place:=hi;have h1:=h.ok.past i hi';show (D.a.set (s % D.a.length) (f r)).getD i []=[]
    by_cases e:i=s % D.a.length
    ·subst e;rw [<- hre] at h1;exact absurd h1 hne
    ·rw [Vx _ _ _ _ e];exact h1
   ·rcases hr0 with hr0|hr0
    ·rcases List.mem_or_eq_of_mem_set hr0 with h1|rfl
     ·exact h.ok.fine r0 (.inl h1) x hx
     ·exact hfine x hx fun y hy=>h.ok.fine r (.inl hrm) y hy
    ·exact h.ok.fine r0 (.inr hr0) x hx
  ·rw [hd];exact I2 D.a _ r (f r) hk hsums h.pa
  ·rw [hd];exact h.pb
 ·have hb:D.b≠[]:=fun e=>by
   unfold Dc.rowsOf at hr;rw [if_pos e] at hr
   match j,hj,hr with
   | j+1,_,hr=>simp at hr
  have hre:r=D.b.getD (s % D.b.length) []:=by
   unfold Dc.rowsOf at hr;rw [if_neg hb] at hr
   match j,hj,hr with
   | 1,_,hr=>simpa using hr.symm
   | j+2,_,hr=>simp at hr
  have hbl:=Zm (h.ok.b hb);have hlt:s % D.b.length<D.b.length:=Nat.mod_lt _ (by omega);have hk:D.b[s % D.b.length]?=some r:=by rw [hre,List.getD_eq_getElem?_getD,List.getElem?_eq_getElem hlt];rfl
  have hrm:r∈D.b:=List.mem_of_getElem? hk;have p1:=Pc D.b _ hlt;rw [<- hre] at p1;have p2:=M9 D.b _ (f r) hlt;have hd:D.upd s j f={ D with b:=D.b.set (s % D.b.length) (f r) }:=by unfold Dc.upd;rw [if_neg hj,<- hre]
  have q0:∀ (x y z:List Nd),(x++(y++z)).Perm (y++(x++z)):=fun x y z=>by
   rw [<- List.append_assoc,<- List.append_assoc];exact List.perm_append_comm.append_right _
  have q1:D.nodes.Perm (r++(D.a.flatten++(D.b.set (s % D.b.length) []).flatten)):=by
   unfold Dc.nodes;exact (p1.append_left _).trans (q0 _ _ _)
  have q2:(D.upd s j f).nodes.Perm (f r++(D.a.flatten++(D.b.set (s % D.b.length) []).flatten)):=by
   rw [hd];unfold Dc.nodes;exact (p2.append_left _).trans (q0 _ _ _)
  have hne2:∀ q,D.b.set (s % D.b.length) q≠[]:=fun q e=>hb (List.eq_nil_of_length_eq_zero (by have:=congrArg List.length e;simpa using this));refine ⟨fin _ _ rfl q1 q2 (fun hn=>?_) ?_ ?_,_,q1,q2⟩
  ·rw [hd] at hn ⊢;refine ⟨h.ok.a,fun _=>by simp only [List.length_set];exact h.ok.b hb,fun _=>h.ok.place hb,fun e=>absurd e (hne2 _),h.ok.past,hn,fun r0 hr0 x hx=>?_⟩;rcases hr0 with hr0|hr0
   ·exact h.ok.fine r0 (.inl hr0) x hx
   ·rcases List.mem_or_eq_of_mem_set hr0 with h1|rfl
    ·exact h.ok.fine r0 (.inr h1) x hx
    ·exact hfine x hx fun y hy=>h.ok.fine r (.inr hrm) y hy
  ·rw [hd];exact h.pa
  ·rw [hd];exact I2 D.b _ r (f r) hk hsums h.pb
end
end Go.Proofs.YtmehfohpjigmmaaGreatDoor.Dc

/- Texts of one kind in one: DcFind, DcDel, DcUpd, DcDoes. -/
import Derived.Test.YtcklcmafohlflaaGreatDoorQDcGrow05
set_option maxRecDepth 200000
set_option maxHeartbeats 8000000
namespace Go.Proofs.YtcklcmafohlflaaGreatDoor.Dc
open Zc
open Go.RowKit Go.Shelf
attribute [local go_sem] Oper.semAt_some
def Nd.is(s:Nat)(k:ByteArray)(x:Nd):Bool:=x.sum==s&&decide (x.key=k)
def Dc.rowsOf(D:Dc)(s:Nat):List (List Nd):=D.a.getD (s % D.a.length) [] :: if D.b=[] then [] else [D.b.getD (s % D.b.length) []]
def y4u(D:Dc)(s:Nat)(k:ByteArray)(n:Nat):Prop:=∀ j r,j<n->(D.rowsOf s)[j]?=some r->∀ x∈r,Nd.is s k x=false
def Hit(D:Dc)(s:Nat)(k:ByteArray)(j i:Nat):Prop:=∃ r x,(D.rowsOf s)[j]?=some r/\r[i]?=some x/\Nd.is s k x=true/\(∀ q y,q<i->r[q]?=some y->Nd.is s k y=false)/\y4u D s k j
section
variable {S:Nat->Prop} {p seed:Nat} {D:Dc} {w:World}
theorem Od{T:Ty}{W:World}{g0 g1:Nat}{A1:Option Addr}{va vb:List Value}(h:Mem T W p g0 g1 A1 va vb seed D)(ok:D.Ok T)(s j:Nat)(x:Nat × Nat)(hx:(D.slots g0 g1 s)[j]?=some x) :
 ∃ v r,(D.rowsOf s)[j]?=some r/\W.cell? ⟨x.1,x.2,none⟩=some v/\W.frozen? ⟨x.1,x.2,none⟩=false/\RowAt T W v r:=by
 have hal:=Zp ok.a
 have key:∀ (g:Nat) (vs:List Value) (rows:List (List Nd)),TabAt T W g vs rows->isS (rows.length:Int)=true->∃ v,W.cell? ⟨g,s % rows.length,none⟩=some v/\W.frozen? ⟨g,s % rows.length,none⟩=false/\RowAt T W v (rows.getD (s % rows.length) []):=fun g vs rows hT hz=>by
  have:=Zp hz
  have hlt:s % rows.length<rows.length:=Nat.mod_lt _ (by omega);have hlv:s % rows.length<vs.length:=by rw [hT.len];exact hlt
  refine ⟨vs[s % rows.length],?_,hT.blk.free _,?_⟩
  ·rw [hT.blk.cell];simp [hlv]
  ·rw [List.getD_eq_getElem?_getD,lAa hlt];exact hT.row _ _ _ (lAa hlv) (lAa hlt)
 unfold Dc.slots at hx
 match j,hx with
 | 0,hx =>
   simp at hx;subst hx;obtain ⟨v,h1,h2,h3⟩:=key g0 va D.a h.ta ok.a;exact ⟨v,_,rfl,h1,h2,h3⟩
 | 1,hx =>
   by_cases hb:D.b=[]
   ·rw [if_pos hb] at hx;simp at hx
   ·rw [if_neg hb] at hx;simp at hx;subst hx;rcases h.tb with ⟨h1,_⟩|⟨_,_,_,htb⟩
    ·exact absurd h1 hb
    ·obtain ⟨v,h1,h2,h3⟩:=key g1 vb D.b htb (ok.b hb);exact ⟨v,_,by unfold Dc.rowsOf;rw [if_neg hb];rfl,h1,h2,h3⟩
 | j+2,hx =>
   by_cases hb:D.b=[]
   ·rw [if_pos hb] at hx;simp at hx
   ·rw [if_neg hb] at hx;simp at hx
theorem z3b(g0 g1 s:Nat):(D.slots g0 g1 s).length=(D.rowsOf s).length:=by
 unfold Dc.slots Dc.rowsOf
 split <;> rfl
theorem V6(s j:Nat)(r:List Nd)(h:(D.rowsOf s)[j]?=some r):r.length<=D.a.flatten.length+D.b.flatten.length:=by
 have key:∀ (rows:List (List Nd)) i,(rows.getD i []).length<=rows.flatten.length:=fun rows i=>by
  rw [List.getD_eq_getElem?_getD]
  cases hg:rows[i]? with
  | none=>simp
  | some r0=>exact Gg rows r0 (lAc hg)
 have k0:=key D.a (s % D.a.length);have k1:=key D.b (s % D.b.length);unfold Dc.rowsOf at h;have hm:=lAc h;rcases List.mem_cons.1 hm with rfl|h1
 ·omega
 ·by_cases hb:D.b=[]
  ·rw [if_pos hb] at h1;simp at h1
  ·rw [if_neg hb,lAg] at h1;subst h1;omega
theorem V9{a b:ByteArray}(h:a.toList=b.toList):a=b:=by
 rw [ByteArray.toList_eq,ByteArray.toList_eq] at h;exact ByteArray.ext (Array.toList_inj.1 h)
theorem Jy(x:Nd)(s:Nat)(key:ByteArray)(b:Bool)(h:Nd.is s key x=b)(W:World) :
 (binOp .eql 192 (.agg #[.int .u32 x.sum,.string x.key]) (.agg #[.int .u32 s,.string key])).run Tryz.prog W=.ok (.bool b) W:=by
 unfold Nd.is at h
 by_cases h1:x.sum=s
 ·by_cases h2:x.key=key
  ·rw [h1,h2] at h;simp at h;subst h;rw [h1,h2];simp [go_sem]
  ·have h3:¬ x.key.toList=key.toList:=fun e=>h2 (V9 e);simp [h1,h2] at h;subst h;rw [h1];simp [go_sem,h3]
 ·have h4:(x.sum==s)=false:=by rw [beq_eq_false_iff_ne];exact h1
  rw [h4,Bool.false_and] at h;subst h;simp [go_sem];intro h;omega
theorem Zk{B:Nat}(W:World)(n:Nat):Below B W (W.drewN n):=⟨rfl,rfl,rfl,lAd _,fun _ _=>rfl⟩
theorem Xi{W W':World}(hb:Bl W W'){a:Addr}{v:Value}(h:W.cell? a=some v):W'.cell? a=some v:=(hb.cell (World.block_lt_of_cell? W a h)).trans h
theorem Qj{T:Ty}(ok:D.Ok T)(n:Nat):(D.step n).Ok T/\(D.step n).n=D.n:=by
 have:=Pe ok (min n D.left) (Nat.min_le_right _ _)
 exact ⟨this.1,this.2.2.1⟩
theorem z9f{r:List Nd}{s:Nat}{k:ByteArray}(h:∀ x∈r,Nd.is s k x=false)(q:Nat)(y:Nd)(hy:r[q]?=some y):Nd.is s k y=false:=h y (lAc hy)
structure Does (w:World) (S:Nat->Prop) (p seed:Nat) (D1:Dc) (s:Nat) (j i K:Nat) (caps:Array Value) (Post:World->Prop):Prop where
 enter:∀ args W,(callFunc K args).run Tryz.prog W=.ok (.enter K args) W
 own:OwnFrom w.heap.size (fun (_:Unit) W=>Post W)
 set:∀ W b v c,w.heap.size<=b->Blk W b 4 c->Post W->Post (W.setCell ⟨b,0,none⟩ v)
 call:∀ W g0 g1 A1 va vb x,Mem tyI W p g0 g1 A1 va vb seed D1->Foot (V3 tyI S w W) p g0 g1 va vb D1->Far S w W->(D1.slots g0 g1 s)[j]?=some x ->
  Calls Tryz.prog K (#[.pointer (some ⟨x.1,x.2,none⟩),.int .i64 i]++caps) W fun e W'=>e=.returned (.tuple #[])/\KeepsFrom w.heap.size W W'/\(∀ b c,Blk W b 4 c->Blk W' b 4 c)/\Post W'
theorem Yq(hsd:seed<4294967296)(h:Rep tyI w p S seed D)(ok:D.Ok tyI)(hn:D.n<=1000000)(key:ByteArray)(hk:key.size<=281474976710656)(K:Nat)(caps:Array Value)
 (hit:Option (Nat × Nat)) (hh:∀ j i,hit=some (j,i)->Hit (D.step 1) (Zq seed key.data.toList) key j i) (hh0:hit=none->y4u (D.step 1) (Zq seed key.data.toList) key 2)
 (Post:World->Prop) (hdo:∀ j i,hit=some (j,i)->Does w S p seed (D.step 1) (Zq seed key.data.toList) j i K caps Post) :
 Calls Tryz.prog 186 #[.pointer (some ⟨p,0,none⟩),.string key,.func (.func K) #[] caps] w fun e w' =>
  e=.returned (.bool hit.isSome)/\(hit=none->Went tyI S w p seed (D.step 1) w')/\(hit.isSome=true->Post w'):=by
 refine (callsIn_wide (n:=6)).1 (callsIn_of_wp_marks Tryz.func186 rfl trivial ?_ rfl);refine wpIn_wide.2 ?_;simp only [Tryz.ntmps186,List.size_toArray,List.length_cons,List.length_nil,Nat.reduceAdd,Nat.reduceSub,Array.replicate_succ,Array.replicate_zero,List.push_toArray,List.append_toArray,List.nil_append,List.cons_append];have hbx:Bl w (w.alloc (Obj.cells #[.func (.func K) #[] caps] 302)):=(Below.refl _ _).alloc (lAd _) _;have kb0:=Blk.new w 302 #[.func (.func K) #[] caps];have hst:=M3 (h.later hbx) ok hn 1;rw [show Int.toNat 1=1 from rfl] at hst;obtain ⟨ok1,hn1⟩:=Qj ok 1;have hsl:=Of seed key.data.toList;have HST:=jY hst;have HH:=jY hh;have HH0:=jY hh0;have HDO:=jY hdo;have HB0:=jY kb0;have HR:=jY h.cells;clear hst hh hh0 hdo kb0;obtain ⟨s,hse⟩:∃ s,Zq seed key.data.toList=s:=⟨_,rfl⟩;have HSE:=jY hse;rw [hse] at HH HH0 HDO hsl;clear hse;go_wp2_with fail;refine wp_scope_straight ?_;go_wp2_with fail;refine HST.out.mono ?_;rintro e w1 ⟨rfl,hw1⟩;have hnm:=Vw hsd hw1.1 key hk;rw [HSE.out] at hnm;have kb1:=hw1.blk HB0.out (fun k hk=>(HR.out k hk).same (hbx.block k (HR.out k hk).lt)) (by decide);have hw1':=Went.since hbx hw1;have HNM:=jY hnm;have HW1:=jY hw1';have HB1:=jY kb1;generalize min 1 D.left=mm at *;clear hnm hw1 kb1 hw1';go_wp2_with fail;refine HNM.out.mono ?_;rintro e w2 ⟨rfl,hb2⟩;have HB2:=jY hb2;clear hb2;go_wp2_with fail;refine wp_label ?_;go_wp2_with fail;refine (C9 s _).mono ?_;rintro e w3 ⟨rfl,rfl⟩;go_wp2;have z1:=HW1.out.2.size;have z2:=HB2.out.size;have kW:=(((Blk.new w2 192 #[Value.int IntKind.u32 ↑s,Value.string key]).alloc (Obj.cells #[Value.bool false] 4)).alloc (Obj.cells #[Value.pointer (some ⟨p,0,none⟩)] 216)).alloc (Obj.cells #[Value.int IntKind.u32 ↑s] 24);have kF:=((Blk.new (w2.alloc (Obj.cells #[Value.int IntKind.u32 ↑s,Value.string key] 192)) 4 #[Value.bool false]).alloc (Obj.cells #[Value.pointer (some ⟨p,0,none⟩)] 216)).alloc (Obj.cells #[Value.int IntKind.u32 ↑s] 24);have kP:=(Blk.new ((w2.alloc (Obj.cells #[Value.int IntKind.u32 ↑s,Value.string key] 192)).alloc (Obj.cells #[Value.bool false] 4)) 216 #[Value.pointer (some ⟨p,0,none⟩)]).alloc (Obj.cells #[Value.int IntKind.u32 ↑s] 24);have kS:=Blk.new (((w2.alloc (Obj.cells #[Value.int IntKind.u32 ↑s,Value.string key] 192)).alloc (Obj.cells #[Value.bool false] 4)).alloc (Obj.cells #[Value.pointer (some ⟨p,0,none⟩)] 216)) 24 #[Value.int IntKind.u32 ↑s]
 have hb4:Bl w2 ((((w2.alloc (Obj.cells #[Value.int IntKind.u32 ↑s,Value.string key] 192)).alloc (Obj.cells #[Value.bool false] 4)).alloc (Obj.cells #[Value.pointer (some ⟨p,0,none⟩)] 216)).alloc (Obj.cells #[Value.int IntKind.u32 ↑s] 24)) :=
  ((((Below.refl _ _).alloc (lAd _) _).alloc (by simp) _).alloc (by simp;omega) _).alloc (by simp;omega) _
 have hz4:((((w2.alloc (Obj.cells #[Value.int IntKind.u32 ↑s,Value.string key] 192)).alloc (Obj.cells #[Value.bool false] 4)).alloc (Obj.cells #[Value.pointer (some ⟨p,0,none⟩)] 216)).alloc (Obj.cells #[Value.int IntKind.u32 ↑s] 24)).heap.size=w2.heap.size+4:=by simp
 simp only [World.size_alloc] at kF kP kS;generalize ((((w2.alloc (Obj.cells #[Value.int IntKind.u32 ↑s,Value.string key] 192)).alloc (Obj.cells #[Value.bool false] 4)).alloc (Obj.cells #[Value.pointer (some ⟨p,0,none⟩)] 216)).alloc (Obj.cells #[Value.int IntKind.u32 ↑s] 24))=w4 at *;have k0:=(HB1.out.later HB2.out).later hb4;have hw4:=(HW1.out.later HB2.out).later hb4;have HW4:=jY hw4;obtain ⟨g0,g1,A1,va,vb,hm4,hf4,hc4⟩:=hw4.1;have HM4:=jY hm4;have HF4:=jY hf4;have hslots:=Gk hm4 ok1 s hsl _ _ kP kS [] (by simp) (by simp);clear hm4 hf4 hc4 hw4
 refine (wpIn_wide (n:=6)).1 (Ui (gf:=227) (encs:=z0z) (xs:=(D.step 1).slots g0 g1 s) (L:=[]) rfl (enters_of Tryz.func227 (by kernel_rfl) rfl) hslots (fun _ _=>rfl)
  (fun i W=>Bl w4 W/\∀ j' i',hit=some (j',i')->i<=j')
  (fun c _ W=>match c with
    | .exit id=>id=0/\hit.isSome=true/\Post W/\Blk W (w2.heap.size+1) 4 #[.bool true]
    | _=>False)
  ?hI ?hIx ?h0 (fun i x a' W=>a'={ tmps:=#[Value.pointer (some ⟨p,0,none⟩),Value.string key,Value.func (Fn.func K) #[] caps,undef,
   undef,Value.pointer (some { block:=w.heap.size,off:=0 }),Value.bool false,
   Value.pointer (some { block:=w2.heap.size,off:=0 }),
   Value.pointer (some { block:=w2.heap.size+1,off:=0 }),Value.pointer (some ⟨x.1,x.2,none⟩),undef,
   Value.pointer (some { block:=p,off:=0 }),Value.int IntKind.i64 ↑mm,
   Value.pointer (some { block:=p,off:=0 }),Value.string key,
   Value.agg #[Value.int IntKind.u32 ↑s,Value.string key],Value.pointer (some { block:=p,off:=0 }),
   Value.pointer (some { block:=w2.heap.size,off:=0 }),Value.int IntKind.u32 ↑s,
   Value.func (Fn.func 227) #[]
    #[Value.pointer (some { block:=w2.heap.size+1+1,off:=0 }),
      Value.pointer (some { block:=w2.heap.size+1+1+1,off:=0 })],
   Value.pointer (some ⟨x.1,x.2,none⟩),undef,undef,undef,undef,undef,undef,undef,undef,undef,undef,undef,undef,undef,undef,
   undef,undef,undef,undef,undef,undef,undef,undef],defers:=[] })
  (fun _ _ _=>Z4 _ _) ?assign ?body ?done ?stop)
 case hI=>exact (Ze _ w4 (lAd _)).and (Z4 _ _)
 case hIx =>
  intro c
  cases c with
  | exit id =>
    cases hh:hit with
    | none=>exact (Z4 _ _).and (fun _ _ _ _ h=>by simp at h)
    | some ji =>
      have:=(HDO.out ji.1 ji.2 (by rw [hh])).own
      exact (Z4 _ _).and ((Z4 _ _).and (OwnFrom.and (fun _ X Y row h1 h2 h3=>this () X Y row h1 h2 (fun k hk=>⟨by have:=(h3 k hk).1;omega,(h3 k hk).2⟩)) (Zh _ _ _ _)))
  | _=>exact Z4 _ _
 case h0=>exact ⟨Below.refl _ _,fun _ _ _=>Nat.zero_le _⟩
 case assign =>
  rintro l i x W K' hx' ⟨hb,hq⟩ hK;unfold z0z;gi_wp2;exact hK _ _ (KeepsFrom.refl _ _) (KeepC.refl _ _) ⟨hb,hq⟩ rfl
 case body =>
  rintro l i x a' W hx' ⟨hb,hq⟩ rfl;obtain ⟨vv,r,hr,c0,d0,hR⟩:=Od (HM4.out.later hb) ok1 s i x hx';obtain ⟨A,cap,rfl,hcap,hmax,hat⟩:=hR.form;have q0:=k0.later hb;have qW:=kW.later hb;have qF:=kF.later hb;obtain ⟨e0,e1⟩:=Z5 q0;have y0:=qW.cell 0;have y1:=qW.cell 1;obtain ⟨e2,e3⟩:=Z5 qF
  by_cases hhit:∃ i',hit=some (i,i')
  ·obtain ⟨m,rfl⟩:=hhit;obtain ⟨r',y0',h1,h2,h3,h4,_⟩:=HH.out i m rfl;rw [hr] at h1
   cases h1
   have hD:=HDO.out i m rfl;have henter:=hD.enter;have HDD:=jY hD;have H2:=jY h2;have H3:=jY h3;have H4:=jY h4;have HAT:=jY hat;have HX:=jY hx';have hml:m<r.length:=(lAb.1 h2).1
   have hrl:(r.length:Int)<=1000000:=by
    have h1:=V6 s i r hr;have h2:=ok1.n;omega
   have Q0:=jY q0;have QF:=jY qF;clear hD h2 h3 h4 hat hR hq hx' hr q0 qW qF k0 kW kF kP kS hslots hmax hcap;gi_wp2
   gi_loopw [25] (fun a wr=>∃ (k:Nat),a=.int .i64 k/\k<=m/\Bl W wr) (fun a _=>r.length-(intOf a).toNat)
   case atStart=>exact ⟨0,rfl,by omega,Below.refl _ _⟩
   case round =>
    obtain ⟨k,rfl,hk,hbr⟩:=hrel;have hlt:k<r.length:=by omega
    have hy:r[k]?=some r[k]:=lAa hlt;obtain ⟨g,hA,hob,n0,n1,n2,fz⟩:=HAT.out k _ hy;subst hA;have hmx:Tryz.prog.follows Departure.mixedOrders=true:=by kernel_rfl
    have c0':=Xi hbr c0;have n0':=Xi hbr n0;have n1':=Xi hbr n1;have y0':=Xi hbr y0;have y1':=Xi hbr y1;have e0':=Xi hbr e0;have hzW:=hb.size;have hzr:=hbr.size
    by_cases hkm:k=m
    ·subst hkm
     have hne:Nd.is s key r[k]=true:=by
      have:=H2.out
      rw [hy] at this
      cases this
      exact H3.out
     generalize r[k]=y at *;clear hy fz e0 e1 e2 e3 d0 n0 n1 n2 y0 y1 c0;obtain ⟨ys,yk,yv⟩:=y;simp only at n0' n1';have heq:=Jy ⟨ys,yk,yv⟩ s key true hne;simp only at heq;clear hne hk;have hbD:Bl w4 wr:=hb.trans (hbr.mono hb.size);gi_wp2;refine Xm (by kernel_rfl) (by kernel_rfl) (by kernel_rfl) ?_
     repeat (quiet_step (fail))
     refine wpQuiet_nil ?_;intro _ hw';obtain ⟨nq,hw''⟩:=hw';subst hw'';have hbN:Bl w4 (wr.drewN nq):=hbD.trans (Zk _ nq);have HWN:=jY (HW4.out.later hbN)
     have hcall:=HDD.out.call (wr.drewN nq) g0 g1 A1 va vb x (HM4.out.later hbN) (by
      have h1:=HF4.out;have h2:=HW4.out.later hbN
      exact ⟨⟨h1.p.1,h1.p.2.same (hbN.block _ h1.p.2.lt)⟩,⟨h1.g0.1,h1.g0.2.same (hbN.block _ h1.g0.2.lt)⟩,fun h=>⟨(h1.g1 h).1,(h1.g1 h).2.same (hbN.block _ (h1.g1 h).2.lt)⟩,fun v hv k hk=>⟨(h1.row v hv k hk).1,(h1.row v hv k hk).2.same (hbN.block _ (h1.row v hv k hk).2.lt)⟩⟩) HWN.out.2 HX.out
     have HCALL:=jY hcall;have hqF:=(QF.out.later hbr).later (Zk (wr) nq);have HQF:=jY hqF;have hzd:(wr.drewN nq).heap.size=wr.heap.size:=rfl;clear hcall hqF
     gi_wp2_with fail
     refine ⟨trivial,?_⟩;refine (CallsIn.inRound l (callsIn_wide.2 HCALL.out)).mono ?_;rintro e W5 ⟨rfl,hkf5,hk4,hP5⟩;have q5:=hk4 _ _ HQF.out;obtain ⟨a5,b5⟩:=Z5 q5;have HK5:=jY hkf5;have HP5:=jY hP5;have HQ5:=jY q5;clear hkf5 hk4 hP5 q5;gi_wp2;refine ⟨?_,rfl,rfl,HDD.out.set _ _ _ _ (by omega) HQ5.out HP5.out,HQ5.out.set 0 _⟩
     exact ⟨lAe hzr (lAe HK5.out.size (by simp [World.setCell])),fun k' o hk' ho hc=>by
      have h1:=hbr.block k' (Array.getElem?_eq_some_iff.1 ho).1
      exact (KeepsOthers.setCell W5 ⟨w2.heap.size+1,0,none⟩ (.bool true)).same k' o (HK5.out.same k' o (by omega) (h1.trans ho) hc) hc⟩
    ·have hne:Nd.is s key r[k]=false:=H4.out k _ (by omega) hy;generalize r[k]=y at *;clear hy fz e0 e1 e2 e3 d0 n0 n1 n2 y0 y1 c0;obtain ⟨ys,yk,yv⟩:=y;simp only at n0' n1';have heq:=Jy ⟨ys,yk,yv⟩ s key false hne;simp only at heq;clear hne;gi_wp2;refine Xm (by kernel_rfl) (by kernel_rfl) (by kernel_rfl) ?_
     repeat (quiet_step (fail))
     refine wpQuiet_nil ?_;intro _ hw';obtain ⟨nq,hw''⟩:=hw';subst hw'';gi_wp2;exact ⟨⟨k+1,by go_num,by omega,hbr.trans (Zk _ nq)⟩,by simp [intOf];omega⟩
  ·have hrow:∀ y∈r,Nd.is s key y=false:=by
    cases hh:hit with
    | none=>exact HH0.out hh i r (by
       have:=(lAb.1 hr).1
       have h2:((D.step 1).rowsOf s).length<=2:=by unfold Dc.rowsOf;split <;> simp
       omega) hr
    | some ji =>
      obtain ⟨r',x',_,_,_,_,h5⟩:=HH.out ji.1 ji.2 hh;have h1:=hq ji.1 ji.2 hh;have h2:i≠ji.1:=fun e=>hhit ⟨ji.2,by rw [hh,e]⟩;exact h5 i r (by omega) hr
   have HROW:=jY hrow;have HAT:=jY hat;have HR':=jY hR;have HQ:=jY hq;have HX:=jY hx';have HHIT:=jY hhit
   have hrl:(r.length:Int)<=1000000:=by
    have h1:=V6 s i r hr;have h2:=ok1.n;omega
   clear hrow hat hR hq hx' hhit hr q0 qW qF k0 kW kF kP kS hslots hmax hcap;gi_wp2
   gi_loopw [25] (fun a wr=>∃ (k:Nat),a=.int .i64 k/\k<=r.length/\Bl W wr) (fun a _=>r.length-(intOf a).toNat)
   case atStart=>exact ⟨0,rfl,by omega,Below.refl _ _⟩
   case round =>
    obtain ⟨k,rfl,hk,hbr⟩:=hrel
    by_cases hlt:k<r.length
    ·have hy:r[k]?=some r[k]:=lAa hlt;obtain ⟨g,hA,hob,n0,n1,n2,fz⟩:=HAT.out k _ hy;subst hA;have hne:=z9f HROW.out k _ hy;generalize r[k]=y at *;have c0':=Xi hbr c0;have n0':=Xi hbr n0;have n1':=Xi hbr n1;have y0':=Xi hbr y0;have y1':=Xi hbr y1;clear hy fz e0 e1 e2 e3 d0 n0 n1 n2 y0 y1 c0;have hmx:Tryz.prog.follows Departure.mixedOrders=true:=by kernel_rfl
     obtain ⟨ys,yk,yv⟩:=y;simp only at n0' n1';have heq:=Jy ⟨ys,yk,yv⟩ s key false hne;simp only at heq;clear hne;gi_wp2;refine Xm (by kernel_rfl) (by kernel_rfl) (by kernel_rfl) ?_
     repeat (quiet_step (fail))
     refine wpQuiet_nil ?_;intro _ hw';obtain ⟨nq,hw''⟩:=hw';subst hw'';gi_wp2;exact ⟨⟨k+1,by go_num,hlt,hbr.trans (Zk _ nq)⟩,by simp [intOf];omega⟩
    ·obtain rfl:k=r.length:=by omega
     gi_wp2;refine ⟨(Far.of_below (S:=fun _=>False) hbr).keeps (T:=tyI) (fun _ h=>h.elim) _,KeepC.of_below hbr,hb.trans (hbr.mono hb.size),fun j' i' hh=>?_⟩;have h1:=HQ.out j' i' hh;have h2:i≠j':=fun e=>HHIT.out ⟨i',by rw [hh,e]⟩;omega
 case done =>
  rintro Dd W hD ⟨hb,hq⟩ hK
  have hn:hit=none:=by
   cases hh:hit with
   | none=>rfl
   | some ji =>
     obtain ⟨r,x,h1,_⟩:=HH.out ji.1 ji.2 hh;have h2:=hq ji.1 ji.2 hh;have h3:=(lAb.1 h1).1;rw [z3b] at h2;omega
  subst hn;have q:=kF.later hb;obtain ⟨e0,e1⟩:=Z5 q;have HK:=jY hK;have HWW:=jY (HW4.out.later hb);clear hK q k0 kW kF kP kS;simp only [Exit.inBlock,Exit.then];go_wp2;refine Y5 (v:=.bool false) rfl HK.out (by simp [results,Tryz.results186,go_sem]) ⟨rfl,?_⟩;exact (Xq (β:=Unit) w.heap.size (lAd _) p seed (fun _=>_)).putObj (s:=()) _ HWW.out (by omega) HK.out rfl
 case stop =>
  rintro Dd c j W hD hI hK
  cases c with
  | exit id =>
    obtain ⟨rfl,hs,hP,q3⟩:=hI;obtain ⟨c3,d3⟩:=Z5 q3;have HK:=jY hK;have HP:=jY hP;have HS:=jY hs;clear hK hP q3 k0 kW kF kP kS hs;refine wpIn_wide.2 ?_;go_wp2;refine Y5 (v:=.bool true) rfl HK.out (by simp [results,Tryz.results186,go_sem]) ⟨by rw [HS.out],fun h=>?_,fun _=>?_⟩
    ·have:=HS.out;rw [h] at this;cases this
    ·obtain ⟨ji,hji⟩:=Option.isSome_iff_exists.1 HS.out;exact ((HDO.out ji.1 ji.2 hji).own).putObj (s:=()) _ HP.out (by omega) HK.out rfl
  | _=>exact hI.elim
end
theorem Pa{S:Nat->Prop}(b:Nat)(hb:S b):∀ (vs:List Value) (o:Nat) (w:World),Far S w (w.setCells b o vs)
 | [],_,w=>Far.refl _ _
 | v :: vs,o,w=>by
   rw [World.setCells];exact ((Far.refl S w).set ⟨b,o,none⟩ v (.inl hb)).trans (Pa b hb vs (o+1) _) fun k hk=>.inl hk
theorem Mv(b:Nat)(t:TypeId):∀ (vs:List Value) (o:Nat) (w:World) (c:Array Value),Blk w b t c->∃ c',Blk (w.setCells b o vs) b t c'/\c'.size=c.size/\∀ j,j<o->c'[j]?=c[j]?
 | [],_,w,c,h=>⟨c,h,rfl,fun _ _=>rfl⟩
 | v :: vs,o,w,c,h=>by
   rw [World.setCells];obtain ⟨c',h1,h2,h3⟩:=Mv b t vs (o+1) _ _ (h.set o v);refine ⟨c',h1,by rw [h2];simp,fun j hj=>?_⟩;rw [h3 j (by omega),Array.getElem?_setIfInBounds];rw [if_neg (by omega)]
theorem RowAt.tail{T:Ty}{W:World}{g cap:Nat}{r:List Nd}(h:RowAt T W (.slice (some ⟨g,0,none⟩) r.length cap) r)(vs:List Value)(o:Nat)(ho:r.length*3<=o):RowAt T (W.setCells g o vs) (.slice (some ⟨g,0,none⟩) r.length cap) r:=by
 rcases h.2 with ⟨h',_⟩|⟨g',cap',cur,h',hb,hg,hnc,hcm,hcs,htake⟩
 ·simp at h'
 ·simp only [Value.slice.injEq,Option.some.injEq,Addr.mk.injEq,and_true,true_and] at h';obtain ⟨rfl,rfl⟩:=h';obtain ⟨c',h1,h2,h3⟩:=Mv g T.r vs o W cur hg;refine ⟨h.1,.inr ⟨g,cap,c',rfl,hb,h1,hnc,hcm,by rw [h2];exact hcs,?_⟩⟩;rw [<- htake]
  apply List.ext_getElem?
  intro j
  by_cases hj:j<r.length*3
  ·rw [List.getElem?_take,List.getElem?_take,if_pos hj,if_pos hj,Array.getElem?_toList,Array.getElem?_toList];exact h3 j (by omega)
  ·rw [List.getElem?_take,List.getElem?_take,if_neg hj,if_neg hj]
theorem RowAt.head{T:Ty}{W:World}{g cap:Nat}{r:List Nd}(h:RowAt T W (.slice (some ⟨g,0,none⟩) r.length cap) r)(i:Nat)(hi:i<=r.length):W.ownsRow 0 T.r 3 (.slice (some ⟨g,0,none⟩) i cap) i (Xs (r.take i)):=by
 rcases h.2 with ⟨h',_⟩|⟨g',cap',cur,h',hb,hg,hnc,hcm,hcs,htake⟩
 ·simp at h'
 ·simp only [Value.slice.injEq,Option.some.injEq,Addr.mk.injEq,and_true,true_and] at h';obtain ⟨rfl,rfl⟩:=h';have hl:(r.take i).length=i:=by rw [List.length_take];omega
  refine ⟨by rw [Ov,hl],.inr ⟨g,cap,cur,rfl,hb,hg,by omega,hcm,hcs,?_⟩⟩;have h1:Xs r=Xs (r.take i)++Xs (r.drop i):=by rw [<- Vo,List.take_append_drop]
  have h2:(Xs (r.take i)).length=i*3:=by rw [Ov,hl]
  have h3:(cur.toList.take (r.length*3)).take (i*3)=cur.toList.take (i*3):=by rw [List.take_take];congr 1;omega
  rw [<- h3,htake,h1,List.take_left' h2]
theorem Px(w:World)(ty:TypeId)(b o c:Nat)(hc:∀ j,j<3->(w.cell? ⟨b,o+j,none⟩).isSome=true)(hf:∀ j,j<3->w.frozen? ⟨b,o+j,none⟩=false) :
 (Builtin.clear_ #[301] ty #[.slice (some ⟨b,o,none⟩) 1 c]).run Tryz.prog w=.ok (.tuple #[]) (w.setCells b o [.int .u32 0,.string ⟨#[]⟩,.int .i64 0]):=by
 have hst:=run_storeCells_cells (P:=Tryz.prog) b o [.int .u32 0,.string ⟨#[]⟩,.int .i64 0] 0 w (by simpa using hc) (by simpa using hf) (by intro v hv;simp at hv;rcases hv with rfl|rfl|rfl <;> rfl);simp only [Nat.add_zero] at hst;have hzc:(Builtin.zeroCells (Value.agg #[.int .u32 0,.string ⟨#[]⟩,.int .i64 0]).cells 1).toList=[.int .u32 0,.string ⟨#[]⟩,.int .i64 0]:=by kernel_rfl
 simp [Builtin.clear_,run_underlying Tryz.underlying301,Tryz.zeroValue300,hzc,hst]
theorem z0f(g cap:Nat)(r:List Nd)(i:Nat)(hi:i<r.length)(hr:∀ x∈r,x.v.oneCell'=true)(hl:r.length<=1000000)(w:World)(hR:RowAt tyI w (.slice (some ⟨g,0,none⟩) r.length cap) r) :
 Calls Tryz.prog 306 #[.slice (some ⟨g,0,none⟩) r.length cap,.int .i64 i,.int .i64 ((i:Int)+1)] w fun e w' =>
  e=.returned (.slice (some ⟨g,0,none⟩) (r.length-1:Nat) cap)/\RowAt tyI w' (.slice (some ⟨g,0,none⟩) (r.length-1:Nat) cap) (r.eraseIdx i)/\Far (fun b=>b=g) w w':=by
 obtain ⟨i0,hi0,hz0,hz1,hz2⟩:=info_parts Gz;have hdr:Bl w w.drew:=(Below.refl _ _).drew;have hRd:RowAt tyI w.drew (.slice (some ⟨g,0,none⟩) r.length cap) r:=hR.far (S:=fun _=>False) (Far.of_below hdr) fun _ _ h=>h;obtain ⟨A',cap',he,hcap,hmax,_⟩:=hR.form
 cases he
 have hmm:cap<=9223372036854775807:=by unfold maxLen at hmax;omega
 obtain ⟨news,hnews⟩:∃ news,news=Xs (r.drop (i+1)):=⟨_,rfl⟩;have hlen:news.length=(r.length-(i+1))*3:=by rw [hnews,Ov,List.length_drop]
 obtain ⟨A,hA,hsrc⟩:∃ A:Addr,(if cap=i+1 then some (⟨g,0,none⟩:Addr) else some ⟨g,(i+1)*3,none⟩)=some A/\(∀ t u,news[t]?=some u->w.drew.cell? (A.add t)=some u):=by
  by_cases h:cap=i+1
  ·refine ⟨⟨g,0,none⟩,by simp [h],fun t u hu=>?_⟩;have h0:news.length=0:=by rw [hlen];omega
   rw [List.length_eq_zero_iff.1 h0] at hu;simp at hu
  ·refine ⟨⟨g,(i+1)*3,none⟩,by simp [h],fun t u hu=>?_⟩
   have ht:t<(r.length-(i+1))*3:=by
    have:=(lAb.1 hu).1
    rwa [hlen] at this
   have hadd:(⟨g,(i+1)*3,none⟩:Addr).add t=⟨g,(i+1)*3+t,none⟩:=by
    unfold Addr.add
    split
    ·rename_i h;subst h;rfl
    ·rfl
   rw [hadd,World.ownsRow.cellAt (base:=0) (e:=300) (size:=3) (xs:=Xs r) hRd _ (by omega),<- hu,hnews];have h1:Xs r=Xs (r.take (i+1))++Xs (r.drop (i+1)):=by rw [<- Vo,List.take_append_drop]
   have h2:(Xs (r.take (i+1))).length=(i+1)*3:=by rw [Ov,List.length_take];omega
   rw [h1,List.getElem?_append_right (by omega),h2]
   congr 1
   omega
 obtain ⟨W1,hrun,hown1,hgrow⟩:=run_append_fits (P:=Tryz.prog) w.drew 0 301 301 300 i0 3 Tryz.underlying301 hi0 hz1 g i cap _ (hRd.head i (by omega)) A (r.length-(i+1)) (cap-(i+1)) news hlen hsrc
  (fun u hu=>Gv (r:=r.drop (i+1)) (fun x hx=>hr x (List.mem_of_mem_drop hx)) u (by rw [<- hnews];exact hu)) (by omega)
 have hera:r.eraseIdx i=r.take i++r.drop (i+1):=List.eraseIdx_eq_take_drop_succ r i;have hel:(r.eraseIdx i).length=r.length-1:=by rw [List.length_eraseIdx,if_pos hi]
 have hR1:RowAt tyI W1 (.slice (some ⟨g,0,none⟩) (r.eraseIdx i).length cap) (r.eraseIdx i):=by
  unfold RowAt;rw [hel,hera,Vo,<- hnews]
  have:i+(r.length-(i+1))=r.length-1:=by omega
  rw [this] at hown1;exact hown1
 obtain ⟨c1,hblk1,hcs1⟩:∃ c1,Blk W1 g 300 c1/\r.length*3<=c1.size:=by
  rcases hR1.2 with ⟨h',_⟩|⟨g',cap',cur,h',hb,hg,hnc,hcm,hcs,htake⟩
  ·simp at h'
  ·simp only [Value.slice.injEq,Option.some.injEq,Addr.mk.injEq,and_true,true_and] at h';obtain ⟨rfl,rfl⟩:=h';exact ⟨cur,hg,by rw [hcs];exact Nat.mul_le_mul_right 3 hcap⟩
 have hcl:=fun ty=>Px W1 ty g ((r.length-1)*3) (cap-(r.length-1)) (fun j hj=>by rw [hblk1.cell,Array.getElem?_eq_getElem (by omega)];rfl) (fun j _=>hblk1.free _)
 have HEND:Hid (RowAt tyI (W1.setCells g ((r.length-1)*3) [.int .u32 0,.string ⟨#[]⟩,.int .i64 0]) (.slice (some ⟨g,0,none⟩) (r.length-1:Nat) cap) (r.eraseIdx i)/\Far (fun b=>b=g) w (W1.setCells g ((r.length-1)*3) [.int .u32 0,.string ⟨#[]⟩,.int .i64 0])):=jY (by
  refine ⟨?_,((Far.of_below hdr).trans (S1:=fun b=>b=g) (Far.of_grown hgrow fun k e=>.inl (by cases e;rfl)) fun k hk=>.inl hk).trans (Pa (S:=fun b=>b=g) g rfl _ _ _) fun k hk=>.inl hk⟩
  have:=hR1.tail [.int .u32 0,.string ⟨#[]⟩,.int .i64 0] ((r.length-1)*3) (by rw [hel];exact lAd _)
  rw [hel] at this
  exact this)
 have h1:(i:Int)<r.length:=by omega
 have h2:(i:Int)+1<=r.length:=by omega
 have h3:(r.length:Int)<=1000000:=by omega
 have h4:(r.length:Int)<=cap:=by omega
 have h5:(cap:Int)<=9223372036854775807:=by omega
 have h6:i+(r.length-(i+1))=r.length-1:=by omega
 rw [h6] at hrun;clear hown1 hgrow hblk1 hcs1 hR1 hera hel hsrc hlen hnews hRd hR hi0 hz0 hz1 hz2 hr h6;have h0:(0:Int)<=(i:Int)+1:=by omega
 have h7:r.length-(r.length-1)=1:=by omega
 have hic:i<=cap:=by omega
 have hjc:i+1<=cap:=by omega
 go_enter Tryz.func306,Tryz.ntmps306
 go_wp2
 go_region_law (refine Vg rfl (.tmp 22) (.tmp 25) 301 301 (by rfl) (by rfl) (by rfl) hrun ?_)
 all_goals go_wp2
 all_goals go_returns
 all_goals exact ⟨rfl,HEND.out⟩
def Dc.upd(D:Dc)(s j:Nat)(f:List Nd->List Nd):Dc :=
 if j=0 then { D with a:=D.a.set (s % D.a.length) (f (D.a.getD (s % D.a.length) [])) } else { D with b:=D.b.set (s % D.b.length) (f (D.b.getD (s % D.b.length) [])) }
theorem TabAt.upd{T:Ty}(hT:T.Apart){W W':World}{g k:Nat}{vs:List Value}{rows:List (List Nd)}{v v':Value}{r':List Nd}(h:TabAt T W g vs rows)(hS:Sep vs)(hv:vs[k]?=some v)(f:Far (fun b=>v.ownBlock=some b\/b=g) W W')
 (hb:Blk W' g T.t (vs.set k v').toArray) (hr:RowAt T W' v' r'):TabAt T W' g (vs.set k v') (rows.set k r'):=by
 refine ⟨hb,by rw [List.length_set,List.length_set];exact h.len,fun i u r hu hr2=>?_⟩
 by_cases e:i=k
 ·subst e;rw [List.getElem?_set_self (lAb.1 hv).1] at hu;rw [List.getElem?_set_self (by have:=(lAb.1 hr2).1;simpa using this)] at hr2
  cases hu;cases hr2
  exact hr
 ·rw [List.getElem?_set_ne (fun h=>e h.symm)] at hu hr2;refine (h.row i u r hu hr2).far f ?_;rintro b hb2 (h1|rfl)
  ·exact e (hS i k u v b hu hv hb2 h1)
  ·obtain ⟨c,hc⟩:=(h.row i u r hu hr2).blk hb2;exact hT.2.2 (h.blk.ty hc)
section
variable {T:Ty} {S:Nat->Prop} {p seed:Nat} {D:Dc} {w:World}
theorem Mem.upd(hT:T.Apart){W W':World}{g0 g1:Nat}{A1:Option Addr}{va vb:List Value}(h:Mem T W p g0 g1 A1 va vb seed D)(ok:D.Ok T)(s j:Nat)(x:Nat × Nat)(hx:(D.slots g0 g1 s)[j]?=some x){v v':Value}{f:List Nd->List Nd}
 (hc:W.cell? ⟨x.1,x.2,none⟩=some v) (fr:Far (fun b=>v.ownBlock=some b\/b=x.1) W W') (hown:∀ k,v'.ownBlock=some k->v.ownBlock=some k)
 (hb:∀ vs:List Value,Blk W x.1 T.t vs.toArray->vs[x.2]?=some v->Blk W' x.1 T.t (vs.set x.2 v').toArray) (hr:∀ r,(D.rowsOf s)[j]?=some r->RowAt T W' v' (f r)) :
 ∃ va' vb',Mem T W' p g0 g1 A1 va' vb' seed (D.upd s j f)/\(∀ u∈va'++vb',∀ k,u.ownBlock=some k->∃ u0∈va++vb,u0.ownBlock=some k):=by
 have hal:=Zp ok.a
 have hmem:∀ (vs:List Value) (k:Nat),vs[k]?=some v->∀ u∈vs.set k v',∀ b,u.ownBlock=some b->∃ u0∈vs,u0.ownBlock=some b:=fun vs k hv u hu b hb'=>by
  rcases List.mem_or_eq_of_mem_set hu with h1|rfl
  ·exact ⟨u,h1,hb'⟩
  ·exact ⟨v,lAc hv,hown b hb'⟩
 have hp:∀ t,t=T.t\/t=T.r->∀ c k,Blk W k t c->p≠k:=fun t ht c k hk e=>by
  subst e;rcases ht with rfl|rfl
  ·exact hT.1 (h.dict.ty hk)
  ·exact hT.2.1 (h.dict.ty hk)
 unfold Dc.slots at hx;unfold Dc.upd
 match j,hx with
 | 0,hx =>
   simp at hx;subst hx;have hlt:s % D.a.length<va.length:=by rw [h.ta.len];exact Nat.mod_lt _ (by omega)
   have hv:va[s % D.a.length]?=some v:=by
    have:=h.ta.blk.cell (s % D.a.length)
    rw [hc] at this
    simpa using this.symm
   obtain ⟨r0,_,hrow⟩:=h.ta.rows hv
   have hpn:¬ (v.ownBlock=some p\/p=g0):=by
    rintro (h1|h1)
    ·obtain ⟨c,hc⟩:=hrow.blk h1;exact hp _ (.inr rfl) _ _ hc rfl
    ·exact hp _ (.inl rfl) _ _ h.ta.blk h1
   refine ⟨va.set (s % D.a.length) v',vb,⟨?_,?_,?_,?_⟩,?_⟩
   ·have:=fr.blk h.dict hpn
    simpa using this
   ·exact h.ta.upd hT h.sep.left hv fr (hb va h.ta.blk hv) (hr _ rfl)
   ·rcases h.tb with h1|⟨h1,h2,h3,h4⟩
    ·exact .inl h1
    ·refine .inr ⟨h1,h2,h3,h4.far fr ?_⟩;rintro k (rfl|⟨u,hu,hk⟩) (h5|h5)
     ·obtain ⟨c,hc⟩:=hrow.blk h5;exact hT.2.2 (h4.blk.ty hc)
     ·exact h3 h5
     ·exact Sep.apart h.sep (lAc hv) hu h5 hk
     ·subst h5;obtain ⟨r,hr⟩:=h4.mem hu;obtain ⟨c,hc⟩:=hr.blk hk;exact hT.2.2 (h.ta.blk.ty hc)
   ·refine Sep.join (h.sep.left.set hv fun k hk=>.inl (hown k hk)) h.sep.right fun u hu u2 hu2 k hk hk2=>?_;obtain ⟨u0,h1,h2⟩:=hmem va _ hv u hu k hk;exact Sep.apart h.sep h1 hu2 h2 hk2
   ·intro u hu k hk;rcases List.mem_append.1 hu with h1|h1
    ·obtain ⟨u0,h2,h3⟩:=hmem va _ hv u h1 k hk;exact ⟨u0,List.mem_append_left _ h2,h3⟩
    ·exact ⟨u,List.mem_append_right _ h1,hk⟩
 | 1,hx =>
   by_cases hb0:D.b=[]
   ·rw [if_pos hb0] at hx;simp at hx
   rw [if_neg hb0] at hx;simp at hx;subst hx;rcases h.tb with ⟨h1,_⟩|⟨h1,h2,h3,h4⟩
   ·exact absurd h1 hb0
   have hbl:=Zp (ok.b hb0);have hlt:s % D.b.length<vb.length:=by rw [h4.len];exact Nat.mod_lt _ (by omega)
   have hv:vb[s % D.b.length]?=some v:=by
    have:=h4.blk.cell (s % D.b.length)
    rw [hc] at this
    simpa using this.symm
   obtain ⟨r0,_,hrow⟩:=h4.rows hv
   have hpn:¬ (v.ownBlock=some p\/p=g1):=by
    rintro (h5|h5)
    ·obtain ⟨c,hc⟩:=hrow.blk h5;exact hp _ (.inr rfl) _ _ hc rfl
    ·exact hp _ (.inl rfl) _ _ h4.blk h5
   have hro:(D.rowsOf s)[1]?=some (D.b.getD (s % D.b.length) []):=by unfold Dc.rowsOf;rw [if_neg hb0];rfl
   refine ⟨va,vb.set (s % D.b.length) v',⟨?_,?_,.inr ⟨?_,h2,h3,?_⟩,?_⟩,?_⟩
   ·have:=fr.blk h.dict hpn
    simpa using this
   ·refine h.ta.far fr ?_;rintro k (rfl|⟨u,hu,hk⟩) (h5|h5)
    ·obtain ⟨c,hc⟩:=hrow.blk h5;exact hT.2.2 (h.ta.blk.ty hc)
    ·exact h3 h5.symm
    ·exact Sep.apart h.sep hu (lAc hv) hk h5
    ·subst h5;obtain ⟨r,hr⟩:=h.ta.mem hu;obtain ⟨c,hc⟩:=hr.blk hk;exact hT.2.2 (h4.blk.ty hc)
   ·intro e
    have:=congrArg List.length e
    simp at this;exact hb0 this
   ·exact h4.upd hT h.sep.right hv fr (hb vb h4.blk hv) (hr _ hro)
   ·refine Sep.join h.sep.left (h.sep.right.set hv fun k hk=>.inl (hown k hk)) fun u hu u2 hu2 k hk hk2=>?_;obtain ⟨u0,h5,h6⟩:=hmem vb _ hv u2 hu2 k hk2;exact Sep.apart h.sep hu h5 hk h6
   ·intro u hu k hk;rcases List.mem_append.1 hu with h5|h5
    ·exact ⟨u,List.mem_append_left _ h5,hk⟩
    ·obtain ⟨u0,h6,h7⟩:=hmem vb _ hv u h5 k hk;exact ⟨u0,List.mem_append_right _ h6,h7⟩
 | j+2,hx =>
   by_cases hb0:D.b=[]
   ·rw [if_pos hb0] at hx;simp at hx
   ·rw [if_neg hb0] at hx;simp at hx
end
def Mw(i:Nat)(v:Value)(r:List Nd):List Nd:=match r[i]? with|some y=>r.set i { y with v:=v }|none=>r
theorem z1r(r:List Nd):∀ (i:Nat) (v:Value) (y:Nd),r[i]?=some y->Xs (Mw i v r)=(Xs r).set (i*3+2) v:=by
 induction r with
 | nil=>intro i v y h;simp at h
 | cons z r ih =>
   intro i v y h
   cases i with
   | zero=>simp at h;subst h;rfl
   | succ i =>
     have h2:r[i]?=some y:=by simpa using h
     have:=ih i v y h2
     unfold Mw at this ⊢;rw [h2] at this;rw [h];simp only at this ⊢;rw [List.set_cons_succ,Jz,this,Jz,List.set_append_right _ _ (by simp [Nd.cells];omega)]
     congr 2
     simp [Nd.cells];omega
theorem z0g(i:Nat)(v:Value)(r:List Nd):(Mw i v r).length=r.length:=by unfold Mw;split <;> simp
section
variable {S:Nat->Prop} {p seed:Nat} {D1:Dc} {w:World}
theorem z4k{W:World}{g0 g1:Nat}{va vb:List Value}(hf:Foot (V3 tyI S w W) p g0 g1 va vb D1){s j:Nat}{x:Nat × Nat}(hx:(D1.slots g0 g1 s)[j]?=some x):S x.1\/w.heap.size<=x.1:=by
 unfold Dc.slots at hx
 match j,hx with
 | 0,hx=>simp at hx;subst hx;exact hf.g0.1
 | 1,hx =>
   by_cases hb:D1.b=[]
   ·rw [if_pos hb] at hx;simp at hx
   ·rw [if_neg hb] at hx;simp at hx;subst hx;exact (hf.g1 hb).1
 | j+2,hx =>
   by_cases hb:D1.b=[]
   ·rw [if_pos hb] at hx;simp at hx
   ·rw [if_neg hb] at hx;simp at hx
theorem y3p{W:World}{g0 g1:Nat}{va vb:List Value}(hf:Foot (V3 tyI S w W) p g0 g1 va vb D1){A1:Option Addr}(hm:Mem tyI W p g0 g1 A1 va vb seed D1)(ok:D1.Ok tyI){s j:Nat}{x:Nat × Nat}(hx:(D1.slots g0 g1 s)[j]?=some x){v:Value}
 (hc:W.cell? ⟨x.1,x.2,none⟩=some v) (k:Nat) (hk:v.ownBlock=some k):S k\/w.heap.size<=k:=by
 have hal:=Zp ok.a;unfold Dc.slots at hx
 match j,hx with
 | 0,hx =>
   simp at hx;subst hx
   have hv:va[s % D1.a.length]?=some v:=by
    have:=hm.ta.blk.cell (s % D1.a.length)
    rw [hc] at this
    simpa using this.symm
   exact (hf.row v (List.mem_append_left _ (lAc hv)) k hk).1
 | 1,hx =>
   by_cases hb:D1.b=[]
   ·rw [if_pos hb] at hx;simp at hx
   ·rw [if_neg hb] at hx;simp at hx;subst hx;rcases hm.tb with ⟨h1,_⟩|⟨h1,h2,h3,h4⟩
    ·exact absurd h1 hb
    have hv:vb[s % D1.b.length]?=some v:=by
     have:=h4.blk.cell (s % D1.b.length)
     rw [hc] at this
     simpa using this.symm
    exact (hf.row v (List.mem_append_right _ (lAc hv)) k hk).1
 | j+2,hx =>
   by_cases hb:D1.b=[]
   ·rw [if_pos hb] at hx;simp at hx
   ·rw [if_neg hb] at hx;simp at hx
theorem Jq{W W':World}{g0 g1:Nat}{A1:Option Addr}{va vb:List Value}(hm:Mem tyI W p g0 g1 A1 va vb seed D1)(hf:Foot (V3 tyI S w W) p g0 g1 va vb D1)(hF:Far S w W)(ok:D1.Ok tyI){s j:Nat}{x:Nat × Nat}(hx:(D1.slots g0 g1 s)[j]?=some x)
 {v v':Value} {f:List Nd->List Nd} (hc:W.cell? ⟨x.1,x.2,none⟩=some v) (fr:Far (fun b=>v.ownBlock=some b\/b=x.1) W W') (hown:∀ k,v'.ownBlock=some k->v.ownBlock=some k)
 (hb:∀ vs:List Value,Blk W x.1 301 vs.toArray->vs[x.2]?=some v->Blk W' x.1 301 (vs.set x.2 v').toArray) (hr:∀ r,(D1.rowsOf s)[j]?=some r->RowAt tyI W' v' (f r)):Went tyI S w p seed (D1.upd s j f) W':=by
 obtain ⟨va',vb',hm',hin⟩:=hm.upd Kl ok s j x hx hc fr hown hb hr;have hbn:(D1.upd s j f).b≠[]->D1.b≠[]:=fun h e=>h (by unfold Dc.upd;split;exact e;simp [e]);refine Went.mk' hm' (hF.trans fr fun k hk=>?_) hf.p.1 hf.g0.1 (fun h=>(hf.g1 (hbn h)).1) fun u hu k hk=>?_
 ·rcases hk with h|rfl
  ·exact y3p hf hm ok hx hc k h
  ·exact z4k hf hx
 ·obtain ⟨u0,h1,h2⟩:=hin u hu k hk;exact (hf.row u0 h1 k h2).1
theorem Ko{W:World}{g0 g1:Nat}{A1:Option Addr}{va vb:List Value}(hm:Mem tyI W p g0 g1 A1 va vb seed D1){s j:Nat}{x:Nat × Nat}(hx:(D1.slots g0 g1 s)[j]?=some x):∃ vs:List Value,Blk W x.1 301 vs.toArray:=by
 unfold Dc.slots at hx
 match j,hx with
 | 0,hx=>simp at hx;subst hx;exact ⟨va,hm.ta.blk⟩
 | 1,hx =>
   by_cases hb:D1.b=[]
   ·rw [if_pos hb] at hx;simp at hx
   ·rw [if_neg hb] at hx;simp at hx;subst hx;rcases hm.tb with ⟨h1,_⟩|⟨h1,h2,h3,h4⟩
    ·exact absurd h1 hb
    ·exact ⟨vb,h4.blk⟩
 | j+2,hx =>
   by_cases hb:D1.b=[]
   ·rw [if_pos hb] at hx;simp at hx
   ·rw [if_neg hb] at hx;simp at hx
theorem z0h(ok:D1.Ok tyI)(hS:∀ k,S k->CellB tyI w k){s j i:Nat}{r0:List Nd}{y:Nd}(hr0:(D1.rowsOf s)[j]?=some r0)(hy:r0[i]?=some y)(hl:r0.length<=1000000)(vbx:Nat)(nv:Int)(hvb:Blk w vbx 2 #[.int .i64 nv]) :
 Does w S p seed D1 s j i 187 #[.pointer (some ⟨vbx,0,none⟩)] (fun W'=>Went tyI S w p seed (D1.upd s j (Mw i (.int .i64 nv))) W'):=by
 refine ⟨enters_of Tryz.func187 (by kernel_rfl) rfl,Xq _ (lAd _) _ _ (fun _=>_),?_,?_⟩
 ·intro W b v c hb hk hW
  have:=(hW.1.far (S1:=fun k=>k=b) (W':=W.setCell ⟨b,0,none⟩ v) ((Far.refl _ _).set _ _ (.inl rfl)) (fun k hk2 e=>by subst e;exact Yx hk (by decide) hk2.2))
  exact ⟨this.wide (fun k hk=>⟨hk.1,this.cells k hk⟩) (fun _ hk=>hk.2),hW.2.set _ _ (.inr hb)⟩
 ·intro W g0 g1 A1 va vb x hm hf hF hx;obtain ⟨v,r,hr,c0,d0,hR⟩:=Od hm ok s j x hx;rw [hr0] at hr
  cases hr
  have hvW:=hF.blk hvb (fun h=>Yx hvb (by decide) (hS _ h));obtain ⟨e0,e1⟩:=Z5 hvW;obtain ⟨A,cap,rfl,hcap,hmax,hat⟩:=hR.form;obtain ⟨g,rfl,hob,n0,n1,n2,fz⟩:=hat i y hy;have hil:=(lAb.1 hy).1;have hil2:(i:Int)<r0.length:=by omega
  have hil3:(i:Int)<=1000000:=by omega
  have fz2:=fz (i*3+2)
  have hWE:∀ nq,Hid (KeepsFrom w.heap.size W ((W.drewN nq).setCell ⟨g,i*3+2,none⟩ (.int .i64 nv))/\(∀ b c,Blk W b 4 c->Blk ((W.drewN nq).setCell ⟨g,i*3+2,none⟩ (.int .i64 nv)) b 4 c)/\Went tyI S w p seed (D1.upd s j (Mw i (.int .i64 nv))) ((W.drewN nq).setCell ⟨g,i*3+2,none⟩ (.int .i64 nv))):=fun nq=>jY (by
   obtain ⟨vs0,hvs0⟩:=Ko hm hx;obtain ⟨cg,hcg⟩:=hR.blk hob;have hgx:x.1≠g:=fun e=>by rw [e] at hvs0;exact absurd (hvs0.ty hcg) (by decide)
   have hRd:RowAt tyI (W.drewN nq) (.slice (some ⟨g,0,none⟩) r0.length cap) r0:=hR.far (S:=fun _=>False) (Far.of_below (Zk _ nq)) fun _ _ h=>h;have hst:=World.ownsRow.stored (w:=W.drewN nq) (base:=0) (e:=300) (size:=3) (g:=g) (n:=r0.length) (cap:=cap) (xs:=Xs r0) hRd (i*3+2) (.int .i64 nv);refine ⟨(Zk W nq:Below w.heap.size W _) |> fun _=>⟨by simp [World.setCell,World.drewN],fun k o hk ho hc=>(KeepsOthers.setCell (W.drewN nq) ⟨g,i*3+2,none⟩ (.int .i64 nv)).same k o ho hc⟩,fun b c hb=>?_,?_⟩
   ·exact (show Blk (W.drewN nq) b 4 c from hb).setOther _ _ (fun e=>by subst e;exact absurd (hb.ty hcg) (by decide))
   ·refine Jq hm hf hF ok hx c0 ((Far.of_below (Zk W nq)).trans (S1:=fun b=>b=g) ((Far.refl _ _).set _ _ (.inl rfl)) fun k hk=>.inl (.inl (by rw [hk];exact hob))) (fun k hk=>hk) (fun vs hb hv=>?_) (fun r hr2=>?_)
    ·have:vs.set x.2 (.slice (some ⟨g,0,none⟩) r0.length cap)=vs:=by
      apply List.ext_getElem?
      intro q
      by_cases e:q=x.2
      ·subst e;rw [List.getElem?_set_self (lAb.1 hv).1,hv]
      ·rw [List.getElem?_set_ne (fun h=>e h.symm)]
     rw [this];exact (show Blk (W.drewN nq) x.1 301 vs.toArray from hb).setOther _ _ hgx
    ·rw [hr0] at hr2
     cases hr2
     have:=hst.1
     rw [<- z1r r0 i (.int .i64 nv) y hy] at this;unfold RowAt;rw [z0g]
     exact this)
  clear hm hf hF hR hat fz hvW
  go_enter Tryz.func187,Tryz.ntmps187
  go_wp2
  go_still_tail 7,(by kernel_rfl)
  change wpList _ _ _ _ _ W.drew;go_wp2;go_returns;exact ⟨rfl,(hWE 1).out⟩
def Got(S:Nat->Prop)(p seed:Nat)(D1:Dc)(w:World)(vbx:Nat)(nv:Int)(W':World):Prop :=
 Rep tyI W' p (V3 tyI S w W') seed D1/\Far (fun k=>S k\/k=vbx) w W'/\Blk W' vbx 2 #[.int .i64 nv]
theorem z5e(B vbx:Nat)(hB:w.heap.size<=B)(nv:Int):OwnFrom B (fun (_:Unit) W=>Got S p seed D1 w vbx nv W):=fun s X Y row hs hg hr=>by
 have hf:Far (fun k=>row=some k) X Y:=Far.of_grown hg fun k e=>.inl e
 have hR:Rep tyI Y p (V3 tyI S w X) seed D1:=hs.1.far hf fun k hk e=>by
  obtain ⟨_,o,ho,hc⟩:=hr k e;obtain ⟨t,c,_,hb⟩:=hk.2;rw [show X.heap[k]?=_ from hb] at ho
  cases ho;cases hc
 exact ⟨hR.wide (fun k hk=>⟨hk.1,hR.cells k hk⟩) (fun _ hk=>hk.2),hs.2.1.trans hf fun k e=>.inr (by have:=(hr k e).1;omega),Zh B vbx 2 (fun _:Unit=>#[.int .i64 nv]) () X Y row hs.2.2 hg hr⟩
theorem Ac(ok:D1.Ok tyI)(hS:∀ k,S k->CellB tyI w k){s j i:Nat}{r0:List Nd}{y:Nd}(hr0:(D1.rowsOf s)[j]?=some r0)(hy:r0[i]?=some y)(hl:r0.length<=1000000)(vbx:Nat)(nv:Int)(hnv:y.v=.int .i64 nv)(z:Value)(hvb:Blk w vbx 2 #[z]) :
 Does w S p seed D1 s j i 309 #[.pointer (some ⟨vbx,0,none⟩)] (Got S p seed D1 w vbx nv):=by
 refine ⟨enters_of Tryz.func309 (by kernel_rfl) rfl,z5e _ vbx (lAd _) nv,?_,?_⟩
 ·intro W b v c hb hk hW
  have:=(hW.1.far (S1:=fun k=>k=b) (W':=W.setCell ⟨b,0,none⟩ v) ((Far.refl _ _).set _ _ (.inl rfl)) (fun k hk2 e=>by subst e;exact Yx hk (by decide) hk2.2))
  exact ⟨this.wide (fun k hk=>⟨hk.1,this.cells k hk⟩) (fun _ hk=>hk.2),hW.2.1.set _ _ (.inr hb),hW.2.2.setOther _ _ (fun e=>by subst e;exact absurd (hk.ty hW.2.2) (by decide))⟩
 ·intro W g0 g1 A1 va vb x hm hf hF hx;obtain ⟨v,r,hr,c0,d0,hR⟩:=Od hm ok s j x hx;rw [hr0] at hr
  cases hr
  have hvW:=hF.blk hvb (fun h=>Yx hvb (by decide) (hS _ h));obtain ⟨e0,e1⟩:=Z5 hvW;obtain ⟨A,cap,rfl,hcap,hmax,hat⟩:=hR.form;obtain ⟨g,rfl,hob,n0,n1,n2,fz⟩:=hat i y hy;rw [hnv] at n2;have hil:=(lAb.1 hy).1;have hil2:(i:Int)<r0.length:=by omega
  have hil3:(i:Int)<=1000000:=by omega
  have hWE:Hid (KeepsFrom w.heap.size W (W.setCell ⟨vbx,0,none⟩ (.int .i64 nv))/\(∀ b c,Blk W b 4 c->Blk (W.setCell ⟨vbx,0,none⟩ (.int .i64 nv)) b 4 c)/\Got S p seed D1 w vbx nv (W.setCell ⟨vbx,0,none⟩ (.int .i64 nv))):=jY (by
   have hnc:¬ CellB tyI W vbx:=Yx hvW (by decide);have f:Far (fun k=>k=vbx) W (W.setCell ⟨vbx,0,none⟩ (.int .i64 nv)):=(Far.refl _ _).set _ _ (.inl rfl);have hne:∀ {k},V3 tyI S w W k->¬ k=vbx:=fun hk e=>by subst e;exact hnc hk.2
   have hm':=hm.far f (hne hf.p) (hne hf.g0) (fun h=>hne (hf.g1 h)) (fun u hu k hk=>hne (hf.row u hu k hk));have hwent:=Went.mk' (T:=tyI) (S:=fun k=>S k\/k=vbx) hm' ((hF.mono (S1:=fun k=>S k\/k=vbx) (fun k hk=>.inl hk)).trans f fun k hk=>.inl (.inr hk)) (hf.p.1.imp .inl id) (hf.g0.1.imp .inl id) (fun h=>(hf.g1 h).1.imp .inl id) (fun u hu k hk=>(hf.row u hu k hk).1.imp .inl id);refine ⟨(KeepsOthers.setCell _ _ _).from _,fun b c hb=>hb.setOther _ _ (fun e=>by subst e;exact absurd (hb.ty hvW) (by decide)),hwent.1.wide (fun k hk=>⟨?_,hk.2⟩) (fun _ hk=>hk.2),hwent.2,hvW.set 0 _⟩;rcases hk.1 with (h1|h1)|h1
   ·exact .inl h1
   ·subst h1;exact absurd hk.2 (Yx (hvW.set 0 (.int .i64 nv)) (by decide))
   ·exact .inr h1)
  clear hm hf hF hR hat hvW
  go_enter Tryz.func309,Tryz.ntmps309
  go_wp2;go_returns;exact ⟨rfl,hWE.out⟩
theorem Bz(ok:D1.Ok tyI){s j i:Nat}{r0:List Nd}{y:Nd}(hr0:(D1.rowsOf s)[j]?=some r0)(hy:r0[i]?=some y)(hl:r0.length<=1000000)(h1c:∀ x∈r0,x.v.oneCell'=true) :
 Does w S p seed D1 s j i 305 #[] (fun W'=>Went tyI S w p seed (D1.upd s j (·.eraseIdx i)) W'):=by
 refine ⟨enters_of Tryz.func305 (by kernel_rfl) rfl,Xq _ (lAd _) _ _ (fun _=>_),?_,?_⟩
 ·intro W b v c hb hk hW
  have:=(hW.1.far (S1:=fun k=>k=b) (W':=W.setCell ⟨b,0,none⟩ v) ((Far.refl _ _).set _ _ (.inl rfl)) (fun k hk2 e=>by subst e;exact Yx hk (by decide) hk2.2))
  exact ⟨this.wide (fun k hk=>⟨hk.1,this.cells k hk⟩) (fun _ hk=>hk.2),hW.2.set _ _ (.inr hb)⟩
 ·intro W g0 g1 A1 va vb x hm hf hF hx;obtain ⟨v,r,hr,c0,d0,hR⟩:=Od hm ok s j x hx;rw [hr0] at hr
  cases hr
  obtain ⟨A,cap,rfl,hcap,hmax,hat⟩:=hR.form;obtain ⟨g,rfl,hob,n0,n1,n2,fz⟩:=hat i y hy;have hil:=(lAb.1 hy).1;have hil2:(i:Int)<r0.length:=by omega
  have hil3:(i:Int)<=1000000:=by omega
  obtain ⟨vs0,hvs0⟩:=Ko hm hx;obtain ⟨cg,hcg⟩:=hR.blk hob;have hgx:x.1≠g:=fun e=>by rw [e] at hvs0;exact absurd (hvs0.ty hcg) (by decide)
  have hel:(r0.eraseIdx i).length=r0.length-1:=by rw [List.length_eraseIdx,if_pos hil]
  have HSD:=jY (z0f g cap r0 i hil h1c hl W hR)
  have hWE:∀ W2,RowAt tyI W2 (.slice (some ⟨g,0,none⟩) (r0.length-1:Nat) cap) (r0.eraseIdx i)->Far (fun b=>b=g) W W2 ->
   Hid ((W2.cell? ⟨x.1,x.2,none⟩=some (.slice (some ⟨g,0,none⟩) r0.length cap)/\W2.frozen? ⟨x.1,x.2,none⟩=false)/\KeepsFrom w.heap.size W (W2.setCell ⟨x.1,x.2,none⟩ (.slice (some ⟨g,0,none⟩) (r0.length-1:Nat) cap))/\(∀ b c,Blk W b 4 c->Blk (W2.setCell ⟨x.1,x.2,none⟩ (.slice (some ⟨g,0,none⟩) (r0.length-1:Nat) cap)) b 4 c) /\
    Went tyI S w p seed (D1.upd s j (·.eraseIdx i)) (W2.setCell ⟨x.1,x.2,none⟩ (.slice (some ⟨g,0,none⟩) (r0.length-1:Nat) cap))):=fun W2 hR2 hF2=>jY (by
   have hv2:=hF2.blk hvs0 hgx;have hfx:Far (fun b=>b=x.1) W2 (W2.setCell ⟨x.1,x.2,none⟩ (.slice (some ⟨g,0,none⟩) (r0.length-1:Nat) cap)):=(Far.refl _ _).set _ _ (.inl rfl);refine ⟨⟨?_,hv2.free _⟩,?_,fun b c hb=>?_,?_⟩
   ·rw [hv2.cell,<- hvs0.cell];exact c0
   ·refine KeepsFrom.trans ⟨hF2.size,fun k o _ hk ho=>(hF2.block k (Array.getElem?_eq_some_iff.1 hk).1 (fun e=>by
     subst e;rw [show W.heap[k]?=_ from hcg] at hk;cases hk;cases ho)).trans hk⟩ ((KeepsOthers.setCell _ _ _).from _)
   ·exact (hF2.blk hb (fun e=>by subst e;exact absurd (hb.ty hcg) (by decide))).setOther _ _ (fun e=>by subst e;exact absurd (hb.ty hvs0) (by decide))
   ·refine Jq (v':=.slice (some ⟨g,0,none⟩) (r0.length-1:Nat) cap) hm hf hF ok hx c0 ((hF2.mono (S1:=fun b=>(Value.slice (some ⟨g,0,none⟩) r0.length cap).ownBlock=some b\/b=x.1) (fun b hb=>.inl (by rw [hb];exact hob))).trans hfx fun k hk=>.inl (.inr hk)) (fun k hk=>hk) (fun vs hb hv=>?_) (fun r hr2=>?_)
    ·have:=(hF2.blk hb hgx).set x.2 (.slice (some ⟨g,0,none⟩) (r0.length-1:Nat) cap)
     rwa [List.setIfInBounds_toArray] at this
    ·rw [hr0] at hr2
     cases hr2
     refine hR2.far hfx fun k hk e=>?_;simp [Value.ownBlock] at hk
     omega)
  clear hm hf hF hR hat fz
  go_enter Tryz.func305,Tryz.ntmps305
  go_wp2_with fail;refine HSD.out.mono ?_;rintro e W2 ⟨rfl,h2,h3⟩;obtain ⟨⟨q0,q1⟩,h4⟩:=(hWE W2 h2 h3).out;have H4:=jY h4;clear h2 h3 h4;go_wp2;go_returns;exact ⟨rfl,H4.out⟩
end
end Go.Proofs.YtcklcmafohlflaaGreatDoor.Dc

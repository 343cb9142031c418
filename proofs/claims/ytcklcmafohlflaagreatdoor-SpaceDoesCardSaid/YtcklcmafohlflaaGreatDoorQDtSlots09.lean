/- Texts of one kind in one: DtSlots, DtFind, DtDel, DtDoes, DtOps. -/
import Derived.Test.YtcklcmafohlflaaGreatDoorQDcIs08
set_option maxRecDepth 200000
set_option maxHeartbeats 8000000
namespace Go.Proofs.YtcklcmafohlflaaGreatDoor.Dc.Dt
open Zc
open Go.RowKit Go.Shelf
attribute [local go_sem] Oper.semAt_some
variable {S:Nat->Prop} {p seed:Nat} {D:Dc} {w:World}
theorem C9(sum:Nat)(w:World):Calls Tryz.prog 156 #[.pointer (some ⟨p,0,none⟩),.int .u32 sum] w fun e w' =>
 e=.returned (.func (.func 178) #[] #[.pointer (some ⟨w.heap.size,0,none⟩),.pointer (some ⟨w.heap.size+1,0,none⟩)])/\w'=(w.alloc (Obj.cells #[.pointer (some ⟨p,0,none⟩)] 64)).alloc (Obj.cells #[.int .u32 sum] 24):=by
 go_enter Tryz.func156,Tryz.ntmps156
 go_wp2;go_ret;exact ⟨rfl,rfl⟩
theorem y1q(a:Option Addr)(n c:Nat)(a':Option Addr)(n' c':Nat)(W:World):(Instr.index 129 (.agg #[.slice a n c,.slice a' n' c']) (.int .i64 0)).run Tryz.prog W=.ok (.slice a n c) W:=by
 simp [Instr.index,run_underlying Tryz.underlying129,asIntOf,go_sem]
theorem y1r(a:Option Addr)(n c:Nat)(a':Option Addr)(n' c':Nat)(W:World):(Instr.index 129 (.agg #[.slice a n c,.slice a' n' c']) (.int .i64 1)).run Tryz.prog W=.ok (.slice a' n' c') W:=by
 simp [Instr.index,run_underlying Tryz.underlying129,asIntOf,go_sem]
theorem Gk{g0 g1:Nat}{A1:Option Addr}{va vb:List Value}(h:Mem tyP w p g0 g1 A1 va vb seed D)(ok:D.Ok tyP)(sum:Nat)(hs:sum<4294967296)(B1 B2:Nat)(h1:Blk w B1 64 #[.pointer (some ⟨p,0,none⟩)])(h2:Blk w B2 24 #[.int .u32 sum])(L:List Nat)(hL1:B1 ∉ L)(hL2:B2 ∉ L) :
 Cv itT Tryz.prog 178 #[.pointer (some ⟨B1,0,none⟩),.pointer (some ⟨B2,0,none⟩)] z0z (D.slots g0 g1 sum) L w:=by
 intro l J Jx W hW hJ hJx hY hJ0;have hm:=h.later hW;have k1:=h1.later hW;have k2:=h2.later hW;obtain ⟨c0,c1,c2,c3,c4,f0,f1,f3,f4⟩:=Zy hm;obtain ⟨d1,e1⟩:=Z5 k1;obtain ⟨d2,e2⟩:=Z5 k2;have hal:=Zp ok.a;have HI0:=fun w=>O1 sum hs D.a.length w;rw [Jh sum ok.a] at HI0;have hlt0:sum % D.a.length<D.a.length:=Nat.mod_lt _ (by omega);have hlt0':((sum % D.a.length:Nat):Int)<D.a.length:=by omega
 have hsl0:(D.slots g0 g1 sum)[0]?=some (g0,sum % D.a.length):=rfl;have HI1:=fun w=>O1 sum hs D.b.length w
 have hbl:D.b.length<=65536:=by
  by_cases hb:D.b=[]
  ·rw [hb];simp
  ·have:=Zp (ok.b hb);omega
 refine callsIn_of_wp Tryz.func178 rfl trivial ?_ rfl;simp only [Tryz.ntmps178,List.size_toArray,List.length_cons,List.length_nil,Nat.reduceAdd,Nat.reduceSub,Array.replicate_succ,Array.replicate_zero,List.push_toArray,List.append_toArray,List.nil_append,List.cons_append]
 have HA:Hid (D.b≠[]->A1=some ⟨g1,0,none⟩):=jY (fun hb=>by
  rcases hm.tb with ⟨h,_⟩|⟨_,h,_⟩
  ·exact absurd h hb
  ·exact h)
 have HY:=jY hY;clear hY hm h h1 h2;have HK1:=jY k1;have HK2:=jY k2;have HL0:=jY hsl0;clear k1 k2 hsl0;generalize sum % D.a.length=j0 at *;have hx0:=y1q;have hx1:=y1r;gi_wp2
 gi_loopw [12] (fun s wr=>∃ (i:Nat),s=.int .i64 i/\i<=2/\Blk wr B1 64 #[.pointer (some ⟨p,0,none⟩)]/\Blk wr B2 24 #[.int .u32 sum]/\(i=0/\J 0 wr\/i=1/\J 1 wr\/i=2/\J (D.slots g0 g1 sum).length wr)) (fun s _=>2-(intOf s).toNat)
 case atStart=>exact ⟨0,rfl,by omega,HK1.out,HK2.out,.inl ⟨rfl,hJ0⟩⟩
 case round =>
  obtain ⟨i,rfl,hi,q1,q2,hJi⟩:=hrel;clear c0 c1 c2 c3 c4 f0 f1 f3 f4 d1 e1 d2 e2 HK1 HK2;obtain ⟨d1,e1⟩:=Z5 q1;obtain ⟨d2,e2⟩:=Z5 q2;have Q1:=jY q1;have Q2:=jY q2;clear q1 q2;rcases hJi with ⟨rfl,hJi⟩|⟨rfl,hJi⟩|⟨rfl,hJi⟩
  ·obtain ⟨fn,tmps,assign,body,hy,hRd⟩:=HY.out 0 _ wr HL0.out hJi;have HRd:=jY (HY.out 0 _ · HL0.out);clear hRd hy fn tmps assign body
   gi_wp2_with fail
   refine ⟨trivial,?_⟩;refine callsIn_wide.2 (Calls.mono (HI0 _) ?_);rintro e w2 ⟨rfl,hb2⟩;obtain ⟨fn,tmps,assign,body,hy,hRd⟩:=HRd.out w2 (hJ _ _ _ hJi hb2);unfold z0z at hy;have q1:=Q1.out.later hb2;have q2:=Q2.out.later hb2;have P1:=jY q1;have P2:=jY q2;clear q1 q2
   gi_wp2_with fail
   (try refine ⟨fun _=>by decide,?_⟩)
   refine hRd.mono ?_;rintro e W3 (⟨rfl,hJ3,hk3⟩|⟨rfl,hJx3⟩)
   ·have q1:=P1.out.keep hk3 hL1;have q2:=P2.out.keep hk3 hL2;clear hRd hy;gi_wp2;refine ⟨⟨1,rfl,by omega,q1,q2,.inr (.inl ⟨rfl,hJ3⟩)⟩,?_⟩;simp [intOf]
   ·gi_wp2;go_returns;exact ⟨⟨_,rfl⟩,.inr ⟨_,hJx3⟩⟩
  ·by_cases hb:D.b=[]
   ·have hln:(D.slots g0 g1 sum).length=1:=by unfold Dc.slots;rw [if_pos hb];rfl
    have hb0:D.b.length=0:=by rw [hb];rfl
    rw [hb0] at HI1;rw [z0k] at HI1;have HN:=jY hln;have HB:=jY hb;clear hb hln;rw [hb0];clear hb0
    gi_wp2_with fail
    refine ⟨trivial,?_⟩;refine callsIn_wide.2 (Calls.mono (HI1 _) ?_);rintro e w2 ⟨rfl,hb2⟩;have hJ2:=hJ _ _ _ hJi hb2;have q1:=Q1.out.later hb2;have q2:=Q2.out.later hb2;have P1:=jY q1;have P2:=jY q2;clear q1 q2;gi_wp2;refine ⟨fun _ h=>(by cases h),?_⟩;gi_wp2;refine ⟨⟨2,rfl,by omega,P1.out,P2.out,.inr (.inr ⟨rfl,by rw [HN.out];exact hJ2⟩)⟩,?_⟩;simp [intOf]
   ·have hln:(D.slots g0 g1 sum).length=2:=by unfold Dc.slots;rw [if_neg hb];rfl
    have hs1:(D.slots g0 g1 sum)[1]?=some (g1,sum % D.b.length):=by unfold Dc.slots;rw [if_neg hb];rfl
    obtain rfl:=HA.out hb;have hbs:=Zp (ok.b hb);rw [Jh sum (ok.b hb)] at HI1;have hlt1:sum % D.b.length<D.b.length:=Nat.mod_lt _ (by omega);have hlt1':((sum % D.b.length:Nat):Int)<D.b.length:=by omega
    have HN:=jY hln;have HS1:=jY hs1;clear hb hln hs1 hlt0 hlt0';generalize sum % D.b.length=j1 at *;have HRd:=jY (HY.out 1 _ · HS1.out)
    gi_wp2_with fail
    refine ⟨trivial,?_⟩;refine callsIn_wide.2 (Calls.mono (HI1 _) ?_);rintro e w2 ⟨rfl,hb2⟩;obtain ⟨fn,tmps,assign,body,hy,hRd⟩:=HRd.out w2 (hJ _ _ _ hJi hb2);unfold z0z at hy;have q1:=Q1.out.later hb2;have q2:=Q2.out.later hb2;have P1:=jY q1;have P2:=jY q2;clear q1 q2
    gi_wp2_with fail
    (try refine ⟨fun _=>by decide,?_⟩)
    refine hRd.mono ?_;rintro e W3 (⟨rfl,hJ3,hk3⟩|⟨rfl,hJx3⟩)
    ·have q1:=P1.out.keep hk3 hL1;have q2:=P2.out.keep hk3 hL2;clear hRd hy;gi_wp2;refine ⟨⟨2,rfl,by omega,q1,q2,.inr (.inr ⟨rfl,by rw [HN.out];exact hJ3⟩)⟩,?_⟩;simp [intOf]
    ·gi_wp2;go_returns;exact ⟨⟨_,rfl⟩,.inr ⟨_,hJx3⟩⟩
  ·gi_wp2
   go_end0
   exact ⟨⟨_,rfl⟩,.inl hJi⟩
variable {S:Nat->Prop} {p seed:Nat} {D:Dc} {w:World}
structure Does (w:World) (S:Nat->Prop) (p seed:Nat) (D1:Dc) (s:Nat) (j i K:Nat) (caps:Array Value) (Post:World->Prop):Prop where
 enter:∀ args W,(callFunc K args).run Tryz.prog W=.ok (.enter K args) W
 own:OwnFrom w.heap.size (fun (_:Unit) W=>Post W)
 set:∀ W b v c,w.heap.size<=b->Blk W b 4 c->Post W->Post (W.setCell ⟨b,0,none⟩ v)
 call:∀ W g0 g1 A1 va vb x,Mem tyP W p g0 g1 A1 va vb seed D1->Foot (V3 tyP S w W) p g0 g1 va vb D1->Far S w W->(D1.slots g0 g1 s)[j]?=some x ->
  Calls Tryz.prog K (#[.pointer (some ⟨x.1,x.2,none⟩),.int .i64 i]++caps) W fun e W'=>e=.returned (.tuple #[])/\KeepsFrom w.heap.size W W'/\(∀ b c,Blk W b 4 c->Blk W' b 4 c)/\Post W'
theorem Yq(hsd:seed<4294967296)(h:Rep tyP w p S seed D)(ok:D.Ok tyP)(hn:D.n<=1000000)(key:ByteArray)(hk:key.size<=281474976710656)(K:Nat)(caps:Array Value)
 (hit:Option (Nat × Nat)) (hh:∀ j i,hit=some (j,i)->Hit (D.step 1) (Zq seed key.data.toList) key j i) (hh0:hit=none->y4u (D.step 1) (Zq seed key.data.toList) key 2)
 (Post:World->Prop) (hdo:∀ j i,hit=some (j,i)->Does w S p seed (D.step 1) (Zq seed key.data.toList) j i K caps Post) :
 Calls Tryz.prog 122 #[.pointer (some ⟨p,0,none⟩),.string key,.func (.func K) #[] caps] w fun e w' =>
  e=.returned (.bool hit.isSome)/\(hit=none->Went tyP S w p seed (D.step 1) w')/\(hit.isSome=true->Post w'):=by
 refine (callsIn_wide (n:=6)).1 (callsIn_of_wp_marks Tryz.func122 rfl trivial ?_ rfl);refine wpIn_wide.2 ?_;simp only [Tryz.ntmps122,List.size_toArray,List.length_cons,List.length_nil,Nat.reduceAdd,Nat.reduceSub,Array.replicate_succ,Array.replicate_zero,List.push_toArray,List.append_toArray,List.nil_append,List.cons_append];have hbx:Bl w (w.alloc (Obj.cells #[.func (.func K) #[] caps] 196)):=(Below.refl _ _).alloc (lAd _) _;have kb0:=Blk.new w 196 #[.func (.func K) #[] caps];have hst:=M3 (h.later hbx) ok hn 1;rw [show Int.toNat 1=1 from rfl] at hst;obtain ⟨ok1,hn1⟩:=Qj ok 1;have hsl:=Of seed key.data.toList;have HST:=jY hst;have HH:=jY hh;have HH0:=jY hh0;have HDO:=jY hdo;have HB0:=jY kb0;have HR:=jY h.cells;clear hst hh hh0 hdo kb0;obtain ⟨s,hse⟩:∃ s,Zq seed key.data.toList=s:=⟨_,rfl⟩;have HSE:=jY hse;rw [hse] at HH HH0 HDO hsl;clear hse;go_wp2_with fail;refine wp_scope_straight ?_;go_wp2_with fail;refine HST.out.mono ?_;rintro e w1 ⟨rfl,hw1⟩;have hnm:=Vw hsd hw1.1 key hk;rw [HSE.out] at hnm;have kb1:=hw1.blk HB0.out (fun k hk=>(HR.out k hk).same (hbx.block k (HR.out k hk).lt)) (by decide);have hw1':=Went.since hbx hw1;have HNM:=jY hnm;have HW1:=jY hw1';have HB1:=jY kb1;generalize min 1 D.left=mm at *;clear hnm hw1 kb1 hw1';go_wp2_with fail;refine HNM.out.mono ?_;rintro e w2 ⟨rfl,hb2⟩;have HB2:=jY hb2;clear hb2;go_wp2_with fail;refine wp_label ?_;go_wp2_with fail;refine (C9 s _).mono ?_;rintro e w3 ⟨rfl,rfl⟩;go_wp2;have z1:=HW1.out.2.size;have z2:=HB2.out.size;have kW:=(((Blk.new w2 192 #[Value.int IntKind.u32 ↑s,Value.string key]).alloc (Obj.cells #[Value.bool false] 4)).alloc (Obj.cells #[Value.pointer (some ⟨p,0,none⟩)] 64)).alloc (Obj.cells #[Value.int IntKind.u32 ↑s] 24);have kF:=((Blk.new (w2.alloc (Obj.cells #[Value.int IntKind.u32 ↑s,Value.string key] 192)) 4 #[Value.bool false]).alloc (Obj.cells #[Value.pointer (some ⟨p,0,none⟩)] 64)).alloc (Obj.cells #[Value.int IntKind.u32 ↑s] 24);have kP:=(Blk.new ((w2.alloc (Obj.cells #[Value.int IntKind.u32 ↑s,Value.string key] 192)).alloc (Obj.cells #[Value.bool false] 4)) 64 #[Value.pointer (some ⟨p,0,none⟩)]).alloc (Obj.cells #[Value.int IntKind.u32 ↑s] 24);have kS:=Blk.new (((w2.alloc (Obj.cells #[Value.int IntKind.u32 ↑s,Value.string key] 192)).alloc (Obj.cells #[Value.bool false] 4)).alloc (Obj.cells #[Value.pointer (some ⟨p,0,none⟩)] 64)) 24 #[Value.int IntKind.u32 ↑s]
 have hb4:Bl w2 ((((w2.alloc (Obj.cells #[Value.int IntKind.u32 ↑s,Value.string key] 192)).alloc (Obj.cells #[Value.bool false] 4)).alloc (Obj.cells #[Value.pointer (some ⟨p,0,none⟩)] 64)).alloc (Obj.cells #[Value.int IntKind.u32 ↑s] 24)) :=
  ((((Below.refl _ _).alloc (lAd _) _).alloc (by simp) _).alloc (by simp;omega) _).alloc (by simp;omega) _
 have hz4:((((w2.alloc (Obj.cells #[Value.int IntKind.u32 ↑s,Value.string key] 192)).alloc (Obj.cells #[Value.bool false] 4)).alloc (Obj.cells #[Value.pointer (some ⟨p,0,none⟩)] 64)).alloc (Obj.cells #[Value.int IntKind.u32 ↑s] 24)).heap.size=w2.heap.size+4:=by simp
 simp only [World.size_alloc] at kF kP kS;generalize ((((w2.alloc (Obj.cells #[Value.int IntKind.u32 ↑s,Value.string key] 192)).alloc (Obj.cells #[Value.bool false] 4)).alloc (Obj.cells #[Value.pointer (some ⟨p,0,none⟩)] 64)).alloc (Obj.cells #[Value.int IntKind.u32 ↑s] 24))=w4 at *;have k0:=(HB1.out.later HB2.out).later hb4;have hw4:=(HW1.out.later HB2.out).later hb4;have HW4:=jY hw4;obtain ⟨g0,g1,A1,va,vb,hm4,hf4,hc4⟩:=hw4.1;have HM4:=jY hm4;have HF4:=jY hf4;have hslots:=Gk hm4 ok1 s hsl _ _ kP kS [] (by simp) (by simp);clear hm4 hf4 hc4 hw4
 refine (wpIn_wide (n:=6)).1 (Ui (gf:=178) (encs:=z0z) (xs:=(D.step 1).slots g0 g1 s) (L:=[]) rfl (enters_of Tryz.func178 (by kernel_rfl) rfl) hslots (fun _ _=>rfl)
  (fun i W=>Bl w4 W/\∀ j' i',hit=some (j',i')->i<=j')
  (fun c _ W=>match c with
    | .exit id=>id=0/\hit.isSome=true/\Post W/\Blk W (w2.heap.size+1) 4 #[.bool true]
    | _=>False)
  ?hI ?hIx ?h0 (fun i x a' W=>a'={ tmps:=#[Value.pointer (some ⟨p,0,none⟩),Value.string key,Value.func (Fn.func K) #[] caps,undef,
   undef,Value.pointer (some { block:=w.heap.size,off:=0 }),Value.bool false,
   Value.pointer (some { block:=w2.heap.size,off:=0 }),
   Value.pointer (some { block:=w2.heap.size+1,off:=0 }),Value.pointer (some ⟨x.1,x.2,none⟩),undef,
   Value.pointer (some { block:=p,off:=0 }),Value.int IntKind.i64 ↑mm,
   Value.pointer (some { block:=p,off:=0 }),Value.string key,
   Value.agg #[Value.int IntKind.u32 ↑s,Value.string key],Value.pointer (some { block:=p,off:=0 }),
   Value.pointer (some { block:=w2.heap.size,off:=0 }),Value.int IntKind.u32 ↑s,
   Value.func (Fn.func 178) #[]
    #[Value.pointer (some { block:=w2.heap.size+1+1,off:=0 }),
      Value.pointer (some { block:=w2.heap.size+1+1+1,off:=0 })],
   Value.pointer (some ⟨x.1,x.2,none⟩),undef,undef,undef,undef,undef,undef,undef,undef,undef,undef,undef,undef,undef,undef,
   undef,undef,undef,undef,undef,undef,undef,undef],defers:=[] })
  (fun _ _ _=>Z4 _ _) ?assign ?body ?done ?stop)
 case hI=>exact (Ze _ w4 (lAd _)).and (Z4 _ _)
 case hIx =>
  intro c
  cases c with
  | exit id =>
    cases hh:hit with
    | none=>exact (Z4 _ _).and (fun _ _ _ _ h=>by simp at h)
    | some ji =>
      have:=(HDO.out ji.1 ji.2 (by rw [hh])).own
      exact (Z4 _ _).and ((Z4 _ _).and (OwnFrom.and (fun _ X Y row h1 h2 h3=>this () X Y row h1 h2 (fun k hk=>⟨by have:=(h3 k hk).1;omega,(h3 k hk).2⟩)) (Zh _ _ _ _)))
  | _=>exact Z4 _ _
 case h0=>exact ⟨Below.refl _ _,fun _ _ _=>Nat.zero_le _⟩
 case assign =>
  rintro l i x W K' hx' ⟨hb,hq⟩ hK;unfold z0z;gi_wp2;exact hK _ _ (KeepsFrom.refl _ _) (KeepC.refl _ _) ⟨hb,hq⟩ rfl
 case body =>
  rintro l i x a' W hx' ⟨hb,hq⟩ rfl;obtain ⟨vv,r,hr,c0,d0,hR⟩:=Od (HM4.out.later hb) ok1 s i x hx';obtain ⟨A,cap,rfl,hcap,hmax,hat⟩:=hR.form;have q0:=k0.later hb;have qW:=kW.later hb;have qF:=kF.later hb;obtain ⟨e0,e1⟩:=Z5 q0;have y0:=qW.cell 0;have y1:=qW.cell 1;obtain ⟨e2,e3⟩:=Z5 qF
  by_cases hhit:∃ i',hit=some (i,i')
  ·obtain ⟨m,rfl⟩:=hhit;obtain ⟨r',y0',h1,h2,h3,h4,_⟩:=HH.out i m rfl;rw [hr] at h1
   cases h1
   have hD:=HDO.out i m rfl;have henter:=hD.enter;have HDD:=jY hD;have H2:=jY h2;have H3:=jY h3;have H4:=jY h4;have HAT:=jY hat;have HX:=jY hx';have hml:m<r.length:=(lAb.1 h2).1
   have hrl:(r.length:Int)<=1000000:=by
    have h1:=V6 s i r hr;have h2:=ok1.n;omega
   have Q0:=jY q0;have QF:=jY qF;clear hD h2 h3 h4 hat hR hq hx' hr q0 qW qF k0 kW kF kP kS hslots hmax hcap;gi_wp2
   gi_loopw [25] (fun a wr=>∃ (k:Nat),a=.int .i64 k/\k<=m/\Bl W wr) (fun a _=>r.length-(intOf a).toNat)
   case atStart=>exact ⟨0,rfl,by omega,Below.refl _ _⟩
   case round =>
    obtain ⟨k,rfl,hk,hbr⟩:=hrel;have hlt:k<r.length:=by omega
    have hy:r[k]?=some r[k]:=lAa hlt;obtain ⟨g,hA,hob,n0,n1,n2,fz⟩:=HAT.out k _ hy;subst hA;have hmx:Tryz.prog.follows Departure.mixedOrders=true:=by kernel_rfl
    have c0':=Xi hbr c0;have n0':=Xi hbr n0;have n1':=Xi hbr n1;have y0':=Xi hbr y0;have y1':=Xi hbr y1;have e0':=Xi hbr e0;have hzW:=hb.size;have hzr:=hbr.size
    by_cases hkm:k=m
    ·subst hkm
     have hne:Nd.is s key r[k]=true:=by
      have:=H2.out
      rw [hy] at this
      cases this
      exact H3.out
     generalize r[k]=y at *;clear hy fz e0 e1 e2 e3 d0 n0 n1 n2 y0 y1 c0;obtain ⟨ys,yk,yv⟩:=y;simp only at n0' n1';have heq:=Jy ⟨ys,yk,yv⟩ s key true hne;simp only at heq;clear hne hk;have hbD:Bl w4 wr:=hb.trans (hbr.mono hb.size);gi_wp2;refine Xm (by kernel_rfl) (by kernel_rfl) (by kernel_rfl) ?_
     repeat (quiet_step (fail))
     refine wpQuiet_nil ?_;intro _ hw';obtain ⟨nq,hw''⟩:=hw';subst hw'';have hbN:Bl w4 (wr.drewN nq):=hbD.trans (Zk _ nq);have HWN:=jY (HW4.out.later hbN)
     have hcall:=HDD.out.call (wr.drewN nq) g0 g1 A1 va vb x (HM4.out.later hbN) (by
      have h1:=HF4.out;have h2:=HW4.out.later hbN
      exact ⟨⟨h1.p.1,h1.p.2.same (hbN.block _ h1.p.2.lt)⟩,⟨h1.g0.1,h1.g0.2.same (hbN.block _ h1.g0.2.lt)⟩,fun h=>⟨(h1.g1 h).1,(h1.g1 h).2.same (hbN.block _ (h1.g1 h).2.lt)⟩,fun v hv k hk=>⟨(h1.row v hv k hk).1,(h1.row v hv k hk).2.same (hbN.block _ (h1.row v hv k hk).2.lt)⟩⟩) HWN.out.2 HX.out
     have HCALL:=jY hcall;have hqF:=(QF.out.later hbr).later (Zk (wr) nq);have HQF:=jY hqF;have hzd:(wr.drewN nq).heap.size=wr.heap.size:=rfl;clear hcall hqF
     gi_wp2_with fail
     refine ⟨trivial,?_⟩;refine (CallsIn.inRound l (callsIn_wide.2 HCALL.out)).mono ?_;rintro e W5 ⟨rfl,hkf5,hk4,hP5⟩;have q5:=hk4 _ _ HQF.out;obtain ⟨a5,b5⟩:=Z5 q5;have HK5:=jY hkf5;have HP5:=jY hP5;have HQ5:=jY q5;clear hkf5 hk4 hP5 q5;gi_wp2;refine ⟨?_,rfl,rfl,HDD.out.set _ _ _ _ (by omega) HQ5.out HP5.out,HQ5.out.set 0 _⟩
     exact ⟨lAe hzr (lAe HK5.out.size (by simp [World.setCell])),fun k' o hk' ho hc=>by
      have h1:=hbr.block k' (Array.getElem?_eq_some_iff.1 ho).1
      exact (KeepsOthers.setCell W5 ⟨w2.heap.size+1,0,none⟩ (.bool true)).same k' o (HK5.out.same k' o (by omega) (h1.trans ho) hc) hc⟩
    ·have hne:Nd.is s key r[k]=false:=H4.out k _ (by omega) hy;generalize r[k]=y at *;clear hy fz e0 e1 e2 e3 d0 n0 n1 n2 y0 y1 c0;obtain ⟨ys,yk,yv⟩:=y;simp only at n0' n1';have heq:=Jy ⟨ys,yk,yv⟩ s key false hne;simp only at heq;clear hne;gi_wp2;refine Xm (by kernel_rfl) (by kernel_rfl) (by kernel_rfl) ?_
     repeat (quiet_step (fail))
     refine wpQuiet_nil ?_;intro _ hw';obtain ⟨nq,hw''⟩:=hw';subst hw'';gi_wp2;exact ⟨⟨k+1,by go_num,by omega,hbr.trans (Zk _ nq)⟩,by simp [intOf];omega⟩
  ·have hrow:∀ y∈r,Nd.is s key y=false:=by
    cases hh:hit with
    | none=>exact HH0.out hh i r (by
       have:=(lAb.1 hr).1
       have h2:((D.step 1).rowsOf s).length<=2:=by unfold Dc.rowsOf;split <;> simp
       omega) hr
    | some ji =>
      obtain ⟨r',x',_,_,_,_,h5⟩:=HH.out ji.1 ji.2 hh;have h1:=hq ji.1 ji.2 hh;have h2:i≠ji.1:=fun e=>hhit ⟨ji.2,by rw [hh,e]⟩;exact h5 i r (by omega) hr
   have HROW:=jY hrow;have HAT:=jY hat;have HR':=jY hR;have HQ:=jY hq;have HX:=jY hx';have HHIT:=jY hhit
   have hrl:(r.length:Int)<=1000000:=by
    have h1:=V6 s i r hr;have h2:=ok1.n;omega
   clear hrow hat hR hq hx' hhit hr q0 qW qF k0 kW kF kP kS hslots hmax hcap;gi_wp2
   gi_loopw [25] (fun a wr=>∃ (k:Nat),a=.int .i64 k/\k<=r.length/\Bl W wr) (fun a _=>r.length-(intOf a).toNat)
   case atStart=>exact ⟨0,rfl,by omega,Below.refl _ _⟩
   case round =>
    obtain ⟨k,rfl,hk,hbr⟩:=hrel
    by_cases hlt:k<r.length
    ·have hy:r[k]?=some r[k]:=lAa hlt;obtain ⟨g,hA,hob,n0,n1,n2,fz⟩:=HAT.out k _ hy;subst hA;have hne:=z9f HROW.out k _ hy;generalize r[k]=y at *;have c0':=Xi hbr c0;have n0':=Xi hbr n0;have n1':=Xi hbr n1;have y0':=Xi hbr y0;have y1':=Xi hbr y1;clear hy fz e0 e1 e2 e3 d0 n0 n1 n2 y0 y1 c0;have hmx:Tryz.prog.follows Departure.mixedOrders=true:=by kernel_rfl
     obtain ⟨ys,yk,yv⟩:=y;simp only at n0' n1';have heq:=Jy ⟨ys,yk,yv⟩ s key false hne;simp only at heq;clear hne;gi_wp2;refine Xm (by kernel_rfl) (by kernel_rfl) (by kernel_rfl) ?_
     repeat (quiet_step (fail))
     refine wpQuiet_nil ?_;intro _ hw';obtain ⟨nq,hw''⟩:=hw';subst hw'';gi_wp2;exact ⟨⟨k+1,by go_num,hlt,hbr.trans (Zk _ nq)⟩,by simp [intOf];omega⟩
    ·obtain rfl:k=r.length:=by omega
     gi_wp2;refine ⟨(Far.of_below (S:=fun _=>False) hbr).keeps (T:=tyP) (fun _ h=>h.elim) _,KeepC.of_below hbr,hb.trans (hbr.mono hb.size),fun j' i' hh=>?_⟩;have h1:=HQ.out j' i' hh;have h2:i≠j':=fun e=>HHIT.out ⟨i',by rw [hh,e]⟩;omega
 case done =>
  rintro Dd W hD ⟨hb,hq⟩ hK
  have hn:hit=none:=by
   cases hh:hit with
   | none=>rfl
   | some ji =>
     obtain ⟨r,x,h1,_⟩:=HH.out ji.1 ji.2 hh;have h2:=hq ji.1 ji.2 hh;have h3:=(lAb.1 h1).1;rw [z3b] at h2;omega
  subst hn;have q:=kF.later hb;obtain ⟨e0,e1⟩:=Z5 q;have HK:=jY hK;have HWW:=jY (HW4.out.later hb);clear hK q k0 kW kF kP kS;simp only [Exit.inBlock,Exit.then];go_wp2;refine Y5 (v:=.bool false) rfl HK.out (by simp [results,Tryz.results122,go_sem]) ⟨rfl,?_⟩;exact (Xq (β:=Unit) w.heap.size (lAd _) p seed (fun _=>_)).putObj (s:=()) _ HWW.out (by omega) HK.out rfl
 case stop =>
  rintro Dd c j W hD hI hK
  cases c with
  | exit id =>
    obtain ⟨rfl,hs,hP,q3⟩:=hI;obtain ⟨c3,d3⟩:=Z5 q3;have HK:=jY hK;have HP:=jY hP;have HS:=jY hs;clear hK hP q3 k0 kW kF kP kS hs;refine wpIn_wide.2 ?_;go_wp2;refine Y5 (v:=.bool true) rfl HK.out (by simp [results,Tryz.results122,go_sem]) ⟨by rw [HS.out],fun h=>?_,fun _=>?_⟩
    ·have:=HS.out;rw [h] at this;cases this
    ·obtain ⟨ji,hji⟩:=Option.isSome_iff_exists.1 HS.out;exact ((HDO.out ji.1 ji.2 hji).own).putObj (s:=()) _ HP.out (by omega) HK.out rfl
  | _=>exact hI.elim
theorem Px(w:World)(ty:TypeId)(b o c:Nat)(hc:∀ j,j<3->(w.cell? ⟨b,o+j,none⟩).isSome=true)(hf:∀ j,j<3->w.frozen? ⟨b,o+j,none⟩=false) :
 (Builtin.clear_ #[195] ty #[.slice (some ⟨b,o,none⟩) 1 c]).run Tryz.prog w=.ok (.tuple #[]) (w.setCells b o [.int .u32 0,.string ⟨#[]⟩,.pointer none]):=by
 have hst:=run_storeCells_cells (P:=Tryz.prog) b o [.int .u32 0,.string ⟨#[]⟩,.pointer none] 0 w (by simpa using hc) (by simpa using hf) (by intro v hv;simp at hv;rcases hv with rfl|rfl|rfl <;> rfl);simp only [Nat.add_zero] at hst;have hzc:(Builtin.zeroCells (Value.agg #[.int .u32 0,.string ⟨#[]⟩,.pointer none]).cells 1).toList=[.int .u32 0,.string ⟨#[]⟩,.pointer none]:=by kernel_rfl
 simp [Builtin.clear_,run_underlying Tryz.underlying195,Tryz.zeroValue194,hzc,hst]
theorem z0f(g cap:Nat)(r:List Nd)(i:Nat)(hi:i<r.length)(hr:∀ x∈r,x.v.oneCell'=true)(hl:r.length<=1000000)(w:World)(hR:RowAt tyP w (.slice (some ⟨g,0,none⟩) r.length cap) r) :
 Calls Tryz.prog 131 #[.slice (some ⟨g,0,none⟩) r.length cap,.int .i64 i,.int .i64 ((i:Int)+1)] w fun e w' =>
  e=.returned (.slice (some ⟨g,0,none⟩) (r.length-1:Nat) cap)/\RowAt tyP w' (.slice (some ⟨g,0,none⟩) (r.length-1:Nat) cap) (r.eraseIdx i)/\Far (fun b=>b=g) w w':=by
 obtain ⟨i0,hi0,hz0,hz1,hz2⟩:=info_parts Gz;have hdr:Bl w w.drew:=(Below.refl _ _).drew;have hRd:RowAt tyP w.drew (.slice (some ⟨g,0,none⟩) r.length cap) r:=hR.far (S:=fun _=>False) (Far.of_below hdr) fun _ _ h=>h;obtain ⟨A',cap',he,hcap,hmax,_⟩:=hR.form
 cases he
 have hmm:cap<=9223372036854775807:=by unfold maxLen at hmax;omega
 obtain ⟨news,hnews⟩:∃ news,news=Xs (r.drop (i+1)):=⟨_,rfl⟩;have hlen:news.length=(r.length-(i+1))*3:=by rw [hnews,Ov,List.length_drop]
 obtain ⟨A,hA,hsrc⟩:∃ A:Addr,(if cap=i+1 then some (⟨g,0,none⟩:Addr) else some ⟨g,(i+1)*3,none⟩)=some A/\(∀ t u,news[t]?=some u->w.drew.cell? (A.add t)=some u):=by
  by_cases h:cap=i+1
  ·refine ⟨⟨g,0,none⟩,by simp [h],fun t u hu=>?_⟩;have h0:news.length=0:=by rw [hlen];omega
   rw [List.length_eq_zero_iff.1 h0] at hu;simp at hu
  ·refine ⟨⟨g,(i+1)*3,none⟩,by simp [h],fun t u hu=>?_⟩
   have ht:t<(r.length-(i+1))*3:=by
    have:=(lAb.1 hu).1
    rwa [hlen] at this
   have hadd:(⟨g,(i+1)*3,none⟩:Addr).add t=⟨g,(i+1)*3+t,none⟩:=by
    unfold Addr.add
    split
    ·rename_i h;subst h;rfl
    ·rfl
   rw [hadd,World.ownsRow.cellAt (base:=0) (e:=194) (size:=3) (xs:=Xs r) hRd _ (by omega),<- hu,hnews];have h1:Xs r=Xs (r.take (i+1))++Xs (r.drop (i+1)):=by rw [<- Vo,List.take_append_drop]
   have h2:(Xs (r.take (i+1))).length=(i+1)*3:=by rw [Ov,List.length_take];omega
   rw [h1,List.getElem?_append_right (by omega),h2]
   congr 1
   omega
 obtain ⟨W1,hrun,hown1,hgrow⟩:=run_append_fits (P:=Tryz.prog) w.drew 0 195 195 194 i0 3 Tryz.underlying195 hi0 hz1 g i cap _ (hRd.head i (by omega)) A (r.length-(i+1)) (cap-(i+1)) news hlen hsrc
  (fun u hu=>Gv (r:=r.drop (i+1)) (fun x hx=>hr x (List.mem_of_mem_drop hx)) u (by rw [<- hnews];exact hu)) (by omega)
 have hera:r.eraseIdx i=r.take i++r.drop (i+1):=List.eraseIdx_eq_take_drop_succ r i;have hel:(r.eraseIdx i).length=r.length-1:=by rw [List.length_eraseIdx,if_pos hi]
 have hR1:RowAt tyP W1 (.slice (some ⟨g,0,none⟩) (r.eraseIdx i).length cap) (r.eraseIdx i):=by
  unfold RowAt;rw [hel,hera,Vo,<- hnews]
  have:i+(r.length-(i+1))=r.length-1:=by omega
  rw [this] at hown1;exact hown1
 obtain ⟨c1,hblk1,hcs1⟩:∃ c1,Blk W1 g 194 c1/\r.length*3<=c1.size:=by
  rcases hR1.2 with ⟨h',_⟩|⟨g',cap',cur,h',hb,hg,hnc,hcm,hcs,htake⟩
  ·simp at h'
  ·simp only [Value.slice.injEq,Option.some.injEq,Addr.mk.injEq,and_true,true_and] at h';obtain ⟨rfl,rfl⟩:=h';exact ⟨cur,hg,by rw [hcs];exact Nat.mul_le_mul_right 3 hcap⟩
 have hcl:=fun ty=>Px W1 ty g ((r.length-1)*3) (cap-(r.length-1)) (fun j hj=>by rw [hblk1.cell,Array.getElem?_eq_getElem (by omega)];rfl) (fun j _=>hblk1.free _)
 have HEND:Hid (RowAt tyP (W1.setCells g ((r.length-1)*3) [.int .u32 0,.string ⟨#[]⟩,.pointer none]) (.slice (some ⟨g,0,none⟩) (r.length-1:Nat) cap) (r.eraseIdx i)/\Far (fun b=>b=g) w (W1.setCells g ((r.length-1)*3) [.int .u32 0,.string ⟨#[]⟩,.pointer none])):=jY (by
  refine ⟨?_,((Far.of_below hdr).trans (S1:=fun b=>b=g) (Far.of_grown hgrow fun k e=>.inl (by cases e;rfl)) fun k hk=>.inl hk).trans (Pa (S:=fun b=>b=g) g rfl _ _ _) fun k hk=>.inl hk⟩
  have:=hR1.tail [.int .u32 0,.string ⟨#[]⟩,.pointer none] ((r.length-1)*3) (by rw [hel];exact lAd _)
  rw [hel] at this
  exact this)
 have h1:(i:Int)<r.length:=by omega
 have h2:(i:Int)+1<=r.length:=by omega
 have h3:(r.length:Int)<=1000000:=by omega
 have h4:(r.length:Int)<=cap:=by omega
 have h5:(cap:Int)<=9223372036854775807:=by omega
 have h6:i+(r.length-(i+1))=r.length-1:=by omega
 rw [h6] at hrun;clear hown1 hgrow hblk1 hcs1 hR1 hera hel hsrc hlen hnews hRd hR hi0 hz0 hz1 hz2 hr h6;have h0:(0:Int)<=(i:Int)+1:=by omega
 have h7:r.length-(r.length-1)=1:=by omega
 have hic:i<=cap:=by omega
 have hjc:i+1<=cap:=by omega
 go_enter Tryz.func131,Tryz.ntmps131
 go_wp2
 go_region_law (refine Vg rfl (.tmp 22) (.tmp 25) 195 195 (by rfl) (by rfl) (by rfl) hrun ?_)
 all_goals go_wp2
 all_goals go_returns
 all_goals exact ⟨rfl,HEND.out⟩
variable {S:Nat->Prop} {p seed:Nat} {D1:Dc} {w:World}
theorem z4k{W:World}{g0 g1:Nat}{va vb:List Value}(hf:Foot (V3 tyP S w W) p g0 g1 va vb D1){s j:Nat}{x:Nat × Nat}(hx:(D1.slots g0 g1 s)[j]?=some x):S x.1\/w.heap.size<=x.1:=by
 unfold Dc.slots at hx
 match j,hx with
 | 0,hx=>simp at hx;subst hx;exact hf.g0.1
 | 1,hx =>
   by_cases hb:D1.b=[]
   ·rw [if_pos hb] at hx;simp at hx
   ·rw [if_neg hb] at hx;simp at hx;subst hx;exact (hf.g1 hb).1
 | j+2,hx =>
   by_cases hb:D1.b=[]
   ·rw [if_pos hb] at hx;simp at hx
   ·rw [if_neg hb] at hx;simp at hx
theorem y3p{W:World}{g0 g1:Nat}{va vb:List Value}(hf:Foot (V3 tyP S w W) p g0 g1 va vb D1){A1:Option Addr}(hm:Mem tyP W p g0 g1 A1 va vb seed D1)(ok:D1.Ok tyP){s j:Nat}{x:Nat × Nat}(hx:(D1.slots g0 g1 s)[j]?=some x){v:Value}
 (hc:W.cell? ⟨x.1,x.2,none⟩=some v) (k:Nat) (hk:v.ownBlock=some k):S k\/w.heap.size<=k:=by
 have hal:=Zp ok.a;unfold Dc.slots at hx
 match j,hx with
 | 0,hx =>
   simp at hx;subst hx
   have hv:va[s % D1.a.length]?=some v:=by
    have:=hm.ta.blk.cell (s % D1.a.length)
    rw [hc] at this
    simpa using this.symm
   exact (hf.row v (List.mem_append_left _ (lAc hv)) k hk).1
 | 1,hx =>
   by_cases hb:D1.b=[]
   ·rw [if_pos hb] at hx;simp at hx
   ·rw [if_neg hb] at hx;simp at hx;subst hx;rcases hm.tb with ⟨h1,_⟩|⟨h1,h2,h3,h4⟩
    ·exact absurd h1 hb
    have hv:vb[s % D1.b.length]?=some v:=by
     have:=h4.blk.cell (s % D1.b.length)
     rw [hc] at this
     simpa using this.symm
    exact (hf.row v (List.mem_append_right _ (lAc hv)) k hk).1
 | j+2,hx =>
   by_cases hb:D1.b=[]
   ·rw [if_pos hb] at hx;simp at hx
   ·rw [if_neg hb] at hx;simp at hx
theorem Jq{W W':World}{g0 g1:Nat}{A1:Option Addr}{va vb:List Value}(hm:Mem tyP W p g0 g1 A1 va vb seed D1)(hf:Foot (V3 tyP S w W) p g0 g1 va vb D1)(hF:Far S w W)(ok:D1.Ok tyP){s j:Nat}{x:Nat × Nat}(hx:(D1.slots g0 g1 s)[j]?=some x)
 {v v':Value} {f:List Nd->List Nd} (hc:W.cell? ⟨x.1,x.2,none⟩=some v) (fr:Far (fun b=>v.ownBlock=some b\/b=x.1) W W') (hown:∀ k,v'.ownBlock=some k->v.ownBlock=some k)
 (hb:∀ vs:List Value,Blk W x.1 195 vs.toArray->vs[x.2]?=some v->Blk W' x.1 195 (vs.set x.2 v').toArray) (hr:∀ r,(D1.rowsOf s)[j]?=some r->RowAt tyP W' v' (f r)):Went tyP S w p seed (D1.upd s j f) W':=by
 obtain ⟨va',vb',hm',hin⟩:=hm.upd Km ok s j x hx hc fr hown hb hr;have hbn:(D1.upd s j f).b≠[]->D1.b≠[]:=fun h e=>h (by unfold Dc.upd;split;exact e;simp [e]);refine Went.mk' hm' (hF.trans fr fun k hk=>?_) hf.p.1 hf.g0.1 (fun h=>(hf.g1 (hbn h)).1) fun u hu k hk=>?_
 ·rcases hk with h|rfl
  ·exact y3p hf hm ok hx hc k h
  ·exact z4k hf hx
 ·obtain ⟨u0,h1,h2⟩:=hin u hu k hk;exact (hf.row u0 h1 k h2).1
theorem Ko{W:World}{g0 g1:Nat}{A1:Option Addr}{va vb:List Value}(hm:Mem tyP W p g0 g1 A1 va vb seed D1){s j:Nat}{x:Nat × Nat}(hx:(D1.slots g0 g1 s)[j]?=some x):∃ vs:List Value,Blk W x.1 195 vs.toArray:=by
 unfold Dc.slots at hx
 match j,hx with
 | 0,hx=>simp at hx;subst hx;exact ⟨va,hm.ta.blk⟩
 | 1,hx =>
   by_cases hb:D1.b=[]
   ·rw [if_pos hb] at hx;simp at hx
   ·rw [if_neg hb] at hx;simp at hx;subst hx;rcases hm.tb with ⟨h1,_⟩|⟨h1,h2,h3,h4⟩
    ·exact absurd h1 hb
    ·exact ⟨vb,h4.blk⟩
 | j+2,hx =>
   by_cases hb:D1.b=[]
   ·rw [if_pos hb] at hx;simp at hx
   ·rw [if_neg hb] at hx;simp at hx
theorem z0h(ok:D1.Ok tyP)(hS:∀ k,S k->CellB tyP w k){s j i:Nat}{r0:List Nd}{y:Nd}(hr0:(D1.rowsOf s)[j]?=some r0)(hy:r0[i]?=some y)(hl:r0.length<=1000000)(vbx:Nat)(nv:Option Addr)(hvb:Blk w vbx 79 #[.pointer nv]) :
 Does w S p seed D1 s j i 134 #[.pointer (some ⟨vbx,0,none⟩)] (fun W'=>Went tyP S w p seed (D1.upd s j (Mw i (.pointer nv))) W'):=by
 refine ⟨enters_of Tryz.func134 (by kernel_rfl) rfl,Xq _ (lAd _) _ _ (fun _=>_),?_,?_⟩
 ·intro W b v c hb hk hW
  have:=(hW.1.far (S1:=fun k=>k=b) (W':=W.setCell ⟨b,0,none⟩ v) ((Far.refl _ _).set _ _ (.inl rfl)) (fun k hk2 e=>by subst e;exact Yx hk (by decide) hk2.2))
  exact ⟨this.wide (fun k hk=>⟨hk.1,this.cells k hk⟩) (fun _ hk=>hk.2),hW.2.set _ _ (.inr hb)⟩
 ·intro W g0 g1 A1 va vb x hm hf hF hx;obtain ⟨v,r,hr,c0,d0,hR⟩:=Od hm ok s j x hx;rw [hr0] at hr
  cases hr
  have hvW:=hF.blk hvb (fun h=>Yx hvb (by decide) (hS _ h));obtain ⟨e0,e1⟩:=Z5 hvW;obtain ⟨A,cap,rfl,hcap,hmax,hat⟩:=hR.form;obtain ⟨g,rfl,hob,n0,n1,n2,fz⟩:=hat i y hy;have hil:=(lAb.1 hy).1;have hil2:(i:Int)<r0.length:=by omega
  have hil3:(i:Int)<=1000000:=by omega
  have fz2:=fz (i*3+2)
  have hWE:∀ nq,Hid (KeepsFrom w.heap.size W ((W.drewN nq).setCell ⟨g,i*3+2,none⟩ (.pointer nv))/\(∀ b c,Blk W b 4 c->Blk ((W.drewN nq).setCell ⟨g,i*3+2,none⟩ (.pointer nv)) b 4 c)/\Went tyP S w p seed (D1.upd s j (Mw i (.pointer nv))) ((W.drewN nq).setCell ⟨g,i*3+2,none⟩ (.pointer nv))):=fun nq=>jY (by
   obtain ⟨vs0,hvs0⟩:=Ko hm hx;obtain ⟨cg,hcg⟩:=hR.blk hob;have hgx:x.1≠g:=fun e=>by rw [e] at hvs0;exact absurd (hvs0.ty hcg) (by decide)
   have hRd:RowAt tyP (W.drewN nq) (.slice (some ⟨g,0,none⟩) r0.length cap) r0:=hR.far (S:=fun _=>False) (Far.of_below (Zk _ nq)) fun _ _ h=>h;have hst:=World.ownsRow.stored (w:=W.drewN nq) (base:=0) (e:=194) (size:=3) (g:=g) (n:=r0.length) (cap:=cap) (xs:=Xs r0) hRd (i*3+2) (.pointer nv);refine ⟨(Zk W nq:Below w.heap.size W _) |> fun _=>⟨by simp [World.setCell,World.drewN],fun k o hk ho hc=>(KeepsOthers.setCell (W.drewN nq) ⟨g,i*3+2,none⟩ (.pointer nv)).same k o ho hc⟩,fun b c hb=>?_,?_⟩
   ·exact (show Blk (W.drewN nq) b 4 c from hb).setOther _ _ (fun e=>by subst e;exact absurd (hb.ty hcg) (by decide))
   ·refine Jq hm hf hF ok hx c0 ((Far.of_below (Zk W nq)).trans (S1:=fun b=>b=g) ((Far.refl _ _).set _ _ (.inl rfl)) fun k hk=>.inl (.inl (by rw [hk];exact hob))) (fun k hk=>hk) (fun vs hb hv=>?_) (fun r hr2=>?_)
    ·have:vs.set x.2 (.slice (some ⟨g,0,none⟩) r0.length cap)=vs:=by
      apply List.ext_getElem?
      intro q
      by_cases e:q=x.2
      ·subst e;rw [List.getElem?_set_self (lAb.1 hv).1,hv]
      ·rw [List.getElem?_set_ne (fun h=>e h.symm)]
     rw [this];exact (show Blk (W.drewN nq) x.1 195 vs.toArray from hb).setOther _ _ hgx
    ·rw [hr0] at hr2
     cases hr2
     have:=hst.1
     rw [<- z1r r0 i (.pointer nv) y hy] at this;unfold RowAt;rw [z0g]
     exact this)
  clear hm hf hF hR hat fz hvW
  go_enter Tryz.func134,Tryz.ntmps134
  go_wp2
  go_still_tail 7,(by kernel_rfl)
  change wpList _ _ _ _ _ W.drew;go_wp2;go_returns;exact ⟨rfl,(hWE 1).out⟩
def Got(S:Nat->Prop)(p seed:Nat)(D1:Dc)(w:World)(vbx:Nat)(nv:Option Addr)(W':World):Prop :=
 Rep tyP W' p (V3 tyP S w W') seed D1/\Far (fun k=>S k\/k=vbx) w W'/\Blk W' vbx 79 #[.pointer nv]
theorem z5e(B vbx:Nat)(hB:w.heap.size<=B)(nv:Option Addr):OwnFrom B (fun (_:Unit) W=>Got S p seed D1 w vbx nv W):=fun s X Y row hs hg hr=>by
 have hf:Far (fun k=>row=some k) X Y:=Far.of_grown hg fun k e=>.inl e
 have hR:Rep tyP Y p (V3 tyP S w X) seed D1:=hs.1.far hf fun k hk e=>by
  obtain ⟨_,o,ho,hc⟩:=hr k e;obtain ⟨t,c,_,hb⟩:=hk.2;rw [show X.heap[k]?=_ from hb] at ho
  cases ho;cases hc
 exact ⟨hR.wide (fun k hk=>⟨hk.1,hR.cells k hk⟩) (fun _ hk=>hk.2),hs.2.1.trans hf fun k e=>.inr (by have:=(hr k e).1;omega),Zh B vbx 79 (fun _:Unit=>#[.pointer nv]) () X Y row hs.2.2 hg hr⟩
theorem Ac(ok:D1.Ok tyP)(hS:∀ k,S k->CellB tyP w k){s j i:Nat}{r0:List Nd}{y:Nd}(hr0:(D1.rowsOf s)[j]?=some r0)(hy:r0[i]?=some y)(hl:r0.length<=1000000)(vbx:Nat)(nv:Option Addr)(hnv:y.v=.pointer nv)(z:Value)(hvb:Blk w vbx 79 #[z]) :
 Does w S p seed D1 s j i 123 #[.pointer (some ⟨vbx,0,none⟩)] (Got S p seed D1 w vbx nv):=by
 refine ⟨enters_of Tryz.func123 (by kernel_rfl) rfl,z5e _ vbx (lAd _) nv,?_,?_⟩
 ·intro W b v c hb hk hW
  have:=(hW.1.far (S1:=fun k=>k=b) (W':=W.setCell ⟨b,0,none⟩ v) ((Far.refl _ _).set _ _ (.inl rfl)) (fun k hk2 e=>by subst e;exact Yx hk (by decide) hk2.2))
  exact ⟨this.wide (fun k hk=>⟨hk.1,this.cells k hk⟩) (fun _ hk=>hk.2),hW.2.1.set _ _ (.inr hb),hW.2.2.setOther _ _ (fun e=>by subst e;exact absurd (hk.ty hW.2.2) (by decide))⟩
 ·intro W g0 g1 A1 va vb x hm hf hF hx;obtain ⟨v,r,hr,c0,d0,hR⟩:=Od hm ok s j x hx;rw [hr0] at hr
  cases hr
  have hvW:=hF.blk hvb (fun h=>Yx hvb (by decide) (hS _ h));obtain ⟨e0,e1⟩:=Z5 hvW;obtain ⟨A,cap,rfl,hcap,hmax,hat⟩:=hR.form;obtain ⟨g,rfl,hob,n0,n1,n2,fz⟩:=hat i y hy;rw [hnv] at n2;have hil:=(lAb.1 hy).1;have hil2:(i:Int)<r0.length:=by omega
  have hil3:(i:Int)<=1000000:=by omega
  have hWE:Hid (KeepsFrom w.heap.size W (W.setCell ⟨vbx,0,none⟩ (.pointer nv))/\(∀ b c,Blk W b 4 c->Blk (W.setCell ⟨vbx,0,none⟩ (.pointer nv)) b 4 c)/\Got S p seed D1 w vbx nv (W.setCell ⟨vbx,0,none⟩ (.pointer nv))):=jY (by
   have hnc:¬ CellB tyP W vbx:=Yx hvW (by decide);have f:Far (fun k=>k=vbx) W (W.setCell ⟨vbx,0,none⟩ (.pointer nv)):=(Far.refl _ _).set _ _ (.inl rfl);have hne:∀ {k},V3 tyP S w W k->¬ k=vbx:=fun hk e=>by subst e;exact hnc hk.2
   have hm':=hm.far f (hne hf.p) (hne hf.g0) (fun h=>hne (hf.g1 h)) (fun u hu k hk=>hne (hf.row u hu k hk));have hwent:=Went.mk' (T:=tyP) (S:=fun k=>S k\/k=vbx) hm' ((hF.mono (S1:=fun k=>S k\/k=vbx) (fun k hk=>.inl hk)).trans f fun k hk=>.inl (.inr hk)) (hf.p.1.imp .inl id) (hf.g0.1.imp .inl id) (fun h=>(hf.g1 h).1.imp .inl id) (fun u hu k hk=>(hf.row u hu k hk).1.imp .inl id);refine ⟨(KeepsOthers.setCell _ _ _).from _,fun b c hb=>hb.setOther _ _ (fun e=>by subst e;exact absurd (hb.ty hvW) (by decide)),hwent.1.wide (fun k hk=>⟨?_,hk.2⟩) (fun _ hk=>hk.2),hwent.2,hvW.set 0 _⟩;rcases hk.1 with (h1|h1)|h1
   ·exact .inl h1
   ·subst h1;exact absurd hk.2 (Yx (hvW.set 0 (.pointer nv)) (by decide))
   ·exact .inr h1)
  clear hm hf hF hR hat hvW
  go_enter Tryz.func123,Tryz.ntmps123
  go_wp2;go_returns;exact ⟨rfl,hWE.out⟩
theorem Bz(ok:D1.Ok tyP){s j i:Nat}{r0:List Nd}{y:Nd}(hr0:(D1.rowsOf s)[j]?=some r0)(hy:r0[i]?=some y)(hl:r0.length<=1000000)(h1c:∀ x∈r0,x.v.oneCell'=true) :
 Does w S p seed D1 s j i 130 #[] (fun W'=>Went tyP S w p seed (D1.upd s j (·.eraseIdx i)) W'):=by
 refine ⟨enters_of Tryz.func130 (by kernel_rfl) rfl,Xq _ (lAd _) _ _ (fun _=>_),?_,?_⟩
 ·intro W b v c hb hk hW
  have:=(hW.1.far (S1:=fun k=>k=b) (W':=W.setCell ⟨b,0,none⟩ v) ((Far.refl _ _).set _ _ (.inl rfl)) (fun k hk2 e=>by subst e;exact Yx hk (by decide) hk2.2))
  exact ⟨this.wide (fun k hk=>⟨hk.1,this.cells k hk⟩) (fun _ hk=>hk.2),hW.2.set _ _ (.inr hb)⟩
 ·intro W g0 g1 A1 va vb x hm hf hF hx;obtain ⟨v,r,hr,c0,d0,hR⟩:=Od hm ok s j x hx;rw [hr0] at hr
  cases hr
  obtain ⟨A,cap,rfl,hcap,hmax,hat⟩:=hR.form;obtain ⟨g,rfl,hob,n0,n1,n2,fz⟩:=hat i y hy;have hil:=(lAb.1 hy).1;have hil2:(i:Int)<r0.length:=by omega
  have hil3:(i:Int)<=1000000:=by omega
  obtain ⟨vs0,hvs0⟩:=Ko hm hx;obtain ⟨cg,hcg⟩:=hR.blk hob;have hgx:x.1≠g:=fun e=>by rw [e] at hvs0;exact absurd (hvs0.ty hcg) (by decide)
  have hel:(r0.eraseIdx i).length=r0.length-1:=by rw [List.length_eraseIdx,if_pos hil]
  have HSD:=jY (z0f g cap r0 i hil h1c hl W hR)
  have hWE:∀ W2,RowAt tyP W2 (.slice (some ⟨g,0,none⟩) (r0.length-1:Nat) cap) (r0.eraseIdx i)->Far (fun b=>b=g) W W2 ->
   Hid ((W2.cell? ⟨x.1,x.2,none⟩=some (.slice (some ⟨g,0,none⟩) r0.length cap)/\W2.frozen? ⟨x.1,x.2,none⟩=false)/\KeepsFrom w.heap.size W (W2.setCell ⟨x.1,x.2,none⟩ (.slice (some ⟨g,0,none⟩) (r0.length-1:Nat) cap))/\(∀ b c,Blk W b 4 c->Blk (W2.setCell ⟨x.1,x.2,none⟩ (.slice (some ⟨g,0,none⟩) (r0.length-1:Nat) cap)) b 4 c) /\
    Went tyP S w p seed (D1.upd s j (·.eraseIdx i)) (W2.setCell ⟨x.1,x.2,none⟩ (.slice (some ⟨g,0,none⟩) (r0.length-1:Nat) cap))):=fun W2 hR2 hF2=>jY (by
   have hv2:=hF2.blk hvs0 hgx;have hfx:Far (fun b=>b=x.1) W2 (W2.setCell ⟨x.1,x.2,none⟩ (.slice (some ⟨g,0,none⟩) (r0.length-1:Nat) cap)):=(Far.refl _ _).set _ _ (.inl rfl);refine ⟨⟨?_,hv2.free _⟩,?_,fun b c hb=>?_,?_⟩
   ·rw [hv2.cell,<- hvs0.cell];exact c0
   ·refine KeepsFrom.trans ⟨hF2.size,fun k o _ hk ho=>(hF2.block k (Array.getElem?_eq_some_iff.1 hk).1 (fun e=>by
     subst e;rw [show W.heap[k]?=_ from hcg] at hk;cases hk;cases ho)).trans hk⟩ ((KeepsOthers.setCell _ _ _).from _)
   ·exact (hF2.blk hb (fun e=>by subst e;exact absurd (hb.ty hcg) (by decide))).setOther _ _ (fun e=>by subst e;exact absurd (hb.ty hvs0) (by decide))
   ·refine Jq (v':=.slice (some ⟨g,0,none⟩) (r0.length-1:Nat) cap) hm hf hF ok hx c0 ((hF2.mono (S1:=fun b=>(Value.slice (some ⟨g,0,none⟩) r0.length cap).ownBlock=some b\/b=x.1) (fun b hb=>.inl (by rw [hb];exact hob))).trans hfx fun k hk=>.inl (.inr hk)) (fun k hk=>hk) (fun vs hb hv=>?_) (fun r hr2=>?_)
    ·have:=(hF2.blk hb hgx).set x.2 (.slice (some ⟨g,0,none⟩) (r0.length-1:Nat) cap)
     rwa [List.setIfInBounds_toArray] at this
    ·rw [hr0] at hr2
     cases hr2
     refine hR2.far hfx fun k hk e=>?_;simp [Value.ownBlock] at hk
     omega)
  clear hm hf hF hR hat fz
  go_enter Tryz.func130,Tryz.ntmps130
  go_wp2_with fail;refine HSD.out.mono ?_;rintro e W2 ⟨rfl,h2,h3⟩;obtain ⟨⟨q0,q1⟩,h4⟩:=(hWE W2 h2 h3).out;have H4:=jY h4;clear h2 h3 h4;go_wp2;go_returns;exact ⟨rfl,H4.out⟩
variable {S:Nat->Prop} {p seed:Nat} {D:Dc} {w:World}
def v2l:Option Nd->Value
 | some y=>y.v
 | none=>.pointer none
theorem Gy(hsd:seed<4294967296)(h:Rep tyP w p S seed D)(ok:D.Ok tyP)(hn:D.n<=1000000)(key:ByteArray)(hk:key.size<=281474976710656) :
 Calls Tryz.prog 79 #[.pointer (some ⟨p,0,none⟩),.string key] w fun e w' =>
  e=.returned (.tuple #[v2l ((D.step 1).node (Zq seed key.data.toList) key),.bool ((D.step 1).hit (Zq seed key.data.toList) key).isSome])/\Went tyP S w p seed (D.step 1) w':=by
 have hb0:Bl w (w.alloc (Obj.cells #[.pointer none] 79)):=(Below.refl _ _).alloc (lAd _) _;have k0:=Blk.new w 79 #[.pointer none];have hw:=h.later hb0;obtain ⟨ok1,hn1⟩:=Qj ok 1
 cases hh:(D.step 1).hit (Zq seed key.data.toList) key with
 | none =>
   have hnd:(D.step 1).node (Zq seed key.data.toList) key=none:=by unfold Dc.node;rw [hh]
   have hF:=Yq hsd hw ok hn key hk 123 #[.pointer (some ⟨w.heap.size,0,none⟩)] none (fun j i h=>by cases h) (fun _=>hit_none hh) (fun _=>False) (fun j i h=>by cases h);have HF:=jY hF;have HK:=jY k0;have HN:=jY hnd;have HC:=jY hw.cells;clear hF hh k0 hnd;have hmf:∀ (fn:Fn) (first cap:Array Value) (w:World),(Instr.makeFunc fn first cap).run Tryz.prog w=.ok (.func fn first cap) w:=fun _ _ _ _=>rfl
   go_enter Tryz.func79,Tryz.ntmps79
   go_wp2_with fail;refine HF.out.mono ?_;rintro e w1 ⟨rfl,hw1,_⟩;have hq:=(hw1 trivial).blk HK.out HC.out (by decide);obtain ⟨c0,d0⟩:=Z5 hq;have HW:=jY (hw1 trivial);clear hw1 hq;go_wp2;go_ret2;rw [HN.out];exact ⟨rfl,Went.since hb0 HW.out⟩
 | some ji =>
   obtain ⟨j,i⟩:=ji;obtain ⟨r,y,h1,h2,h3⟩:=Mo hh;obtain ⟨⟨_,nv,hnv⟩,hfr⟩:=I4 h1 h2 ok1
   have hrl:r.length<=1000000:=by
    have h4:=V6 (D:=D.step 1) _ j r h1;have h5:=ok1.n;omega
   have hF:=Yq hsd hw ok hn key hk 123 #[.pointer (some ⟨w.heap.size,0,none⟩)] (some (j,i)) (fun j' i' h=>by cases h;exact Qs hh) (fun h=>by cases h) (Got S p seed (D.step 1) (w.alloc (Obj.cells #[.pointer none] 79)) w.heap.size nv)
    (fun j' i' h=>by cases h;exact Ac ok1 hw.cells h1 h2 hrl w.heap.size nv hnv _ k0)
   have HF:=jY hF;have HN:=jY h3;have HV:=jY hnv;clear hF hh k0 h3 hnv h1 h2 hfr;have hmf:∀ (fn:Fn) (first cap:Array Value) (w:World),(Instr.makeFunc fn first cap).run Tryz.prog w=.ok (.func fn first cap) w:=fun _ _ _ _=>rfl
   go_enter Tryz.func79,Tryz.ntmps79
   go_wp2_with fail;refine HF.out.mono ?_;rintro e w1 ⟨rfl,_,hw1⟩;obtain ⟨g1,g2,g3⟩:=hw1 rfl;obtain ⟨c0,d0⟩:=Z5 g3;have G1:=jY g1;have G2:=jY g2;clear hw1 g1 g2 g3;go_wp2;go_ret2;rw [HN.out];refine ⟨by simp only [v2l];rw [HV.out];rfl,G1.out.wide (fun k hk=>⟨?_,hk.2⟩) (fun _ hk=>hk.2),(Far.of_below hb0).trans G2.out fun k hk=>?_⟩
   ·rcases hk.1 with h1|h1
    ·exact .inl h1
    ·exact .inr (lAe hb0.size h1)
   ·rcases hk with h1|h1
    ·exact .inl h1
    ·exact .inr (by omega)
theorem z0o{W:World}(h:Went tyP S w p seed D W)(m:Nat):Went tyP S w p seed { D with n:=m } (W.setCell ⟨p,4,none⟩ (.int .i64 m)):=by
 obtain ⟨g0,g1,A1,va,vb,hm,hf,hc⟩:=h.1;have f:Far (fun k=>k=p) W (W.setCell ⟨p,4,none⟩ (.int .i64 m)):=(Far.refl _ _).set _ _ (.inl rfl);refine Went.mk' (g0:=g0) (g1:=g1) (A1:=A1) (va:=va) (vb:=vb) ⟨?_,hm.ta.past Km f hm.dict,?_,hm.sep⟩ (h.2.trans f fun k hk=>by subst hk;exact hf.p.1) hf.p.1 hf.g0.1 (fun h=>(hf.g1 h).1) (fun v hv k hk=>(hf.row v hv k hk).1)
 ·have:=hm.dict.set 4 (.int .i64 m)
  simpa using this
 ·rcases hm.tb with h1|⟨h1,h2,h3,h4⟩
  ·exact .inl h1
  ·exact .inr ⟨h1,h2,h3,h4.past Km f hm.dict⟩
theorem Qp{W:World}(h:Went tyP S w p seed D W):W.cell? ⟨p,4,none⟩=some (.int .i64 D.n)/\W.frozen? ⟨p,4,none⟩=false:=by
 obtain ⟨g0,g1,A1,va,vb,hm,hf,hc⟩:=h.1;exact ⟨hm.dict.cell 4,hm.dict.free 4⟩
theorem x3t{s j i:Nat}{r:List Nd}{y:Nd}(ok:D.Ok tyP)(h1:(D.rowsOf s)[j]?=some r)(h2:r[i]?=some y):0<D.n:=by
 have h3:=V6 s j r h1;have h4:=(lAb.1 h2).1;have h5:=ok.n;omega
theorem z3v(hsd:seed<4294967296)(h:Rep tyP w p S seed D)(ok:D.Ok tyP)(hn:D.n<=1000000)(key:ByteArray)(hk:key.size<=281474976710656) :
 Calls Tryz.prog 84 #[.pointer (some ⟨p,0,none⟩),.string key] w fun e w' =>
  e=.returned (.bool ((D.step 1).hit (Zq seed key.data.toList) key).isSome)/\Went tyP S w p seed (D.delS (Zq seed key.data.toList) key) w':=by
 obtain ⟨ok1,hn1⟩:=Qj ok 1
 cases hh:(D.step 1).hit (Zq seed key.data.toList) key with
 | none =>
   have hd:D.delS (Zq seed key.data.toList) key=D.step 1:=by unfold Dc.delS;rw [hh]
   rw [hd];have hF:=Yq hsd h ok hn key hk 130 #[] none (fun j i h=>by cases h) (fun _=>hit_none hh) (fun _=>False) (fun j i h=>by cases h);have HF:=jY hF;clear hF hh hd
   go_enter Tryz.func84,Tryz.ntmps84
   go_wp2_with fail;refine HF.out.mono ?_;rintro e w1 ⟨rfl,hw1,_⟩;have HW:=jY (hw1 trivial);clear hw1;go_wp2;go_ret;exact ⟨rfl,HW.out⟩
 | some ji =>
   obtain ⟨j,i⟩:=ji;have hd:D.delS (Zq seed key.data.toList) key=(((D.step 1).upd (Zq seed key.data.toList) j (·.eraseIdx i)).less).shrunk:=by unfold Dc.delS;rw [hh]
   rw [hd];obtain ⟨r,y,h1,h2,h3⟩:=Mo hh;obtain ⟨_,hfr⟩:=I4 h1 h2 ok1
   have hrl:r.length<=1000000:=by
    have h4:=V6 (D:=D.step 1) _ j r h1;have h5:=ok1.n;omega
   have hnp:=x3t ok1 h1 h2;have hun:((D.step 1).upd (Zq seed key.data.toList) j (·.eraseIdx i)).n=(D.step 1).n:=by unfold Dc.upd;split <;> rfl
   have hF:=Yq hsd h ok hn key hk 130 #[] (some (j,i)) (fun j' i' h=>by cases h;exact Qs hh) (fun h=>by cases h) (fun W'=>Went tyP S w p seed ((D.step 1).upd (Zq seed key.data.toList) j (·.eraseIdx i)) W')
    (fun j' i' h=>by cases h;exact Bz ok1 h1 h2 hrl (fun x hx=>y5s (hfr x hx).2))
   have HF:=jY hF;generalize (D.step 1).upd (Zq seed key.data.toList) j (·.eraseIdx i)=D2 at *;have hn2:0<D2.n/\D2.n<=1000000:=by omega
   have hcast:(((D2.n-1:Nat):Int))=(D2.n:Int)-1:=by omega
   clear hF hh h3 h1 h2 hfr hun hd
   go_enter Tryz.func84,Tryz.ntmps84
   go_wp2_with fail;refine HF.out.mono ?_;rintro e w1 ⟨rfl,_,hw1⟩;have hW:=hw1 rfl;obtain ⟨c0,d0⟩:=Qp hW;have hless:=z0o hW (D2.n-1);rw [hcast] at hless;have hsh:=Gj (D:=D2.less) hless.1 (by show D2.n-1<=1000000;omega);have HSH:=jY hsh;have HL:=jY hless;have hnn:(1:Int)<=D2.n:=by omega
   have hnn2:(D2.n:Int)<=1000000:=by omega
   clear hW hw1 hless hsh hcast;go_wp2_with fail;refine HSH.out.mono ?_;rintro e w2 ⟨rfl,hw2⟩;have HW2:=jY (HL.out.trans hw2);clear hw2;go_wp2;go_ret;exact ⟨rfl,HW2.out⟩
end Go.Proofs.YtcklcmafohlflaaGreatDoor.Dc.Dt

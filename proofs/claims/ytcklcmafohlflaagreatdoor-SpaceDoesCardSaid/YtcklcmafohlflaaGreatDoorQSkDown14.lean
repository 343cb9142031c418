/- Texts of one kind in one: SkDown, SkAsk, SkSeek, SkAt, SkRelink. -/
import Derived.Test.YtcklcmafohlflaaGreatDoorQZMath13
import Derived.Lib.MinMaxS
set_option maxRecDepth 200000
set_option maxHeartbeats 8000000
namespace Go.Proofs.YtcklcmafohlflaaGreatDoor.Sk
open Zc
open Go.RowKit Go.Shelf
attribute [local go_sem] Oper.semAt_some
theorem Ob{B:Nat}{A C:World}(h:Bl A C):KeepsFrom B A C:=⟨h.size,fun k _ _ ho _=>(h.block k (Array.getElem?_eq_some_iff.1 ho).1).trans ho⟩
theorem Di{B:Nat}{W:World}{b t:Nat}{c:Array Value}(h:Blk W b t c)(o:Nat)(v:Value):KeepsFrom B W (W.setCell (Addr.mk b o none) v) :=
 ⟨by simp [World.setCell],fun k x _ hx hc=>(Below.heap_setCell _ _ _ _ (fun e=>by subst e;rw [show W.heap[k]?=_ from h] at hx;cases hx;cases hc)).trans hx⟩
theorem Ky{B:Nat}{A C D:World}(h:KeepsFrom B A C)(g:KeepsFrom B C D):KeepsFrom B A D:=⟨lAe h.size g.size,fun k o hk ho hc=>g.same k o hk (h.same k o hk ho hc) hc⟩
theorem y5v{β:Type}{B:Nat}{S:Nat->Prop}{w0:World}(hB:w0.heap.size<=B):OwnFrom B (fun (_:β) W=>Far S w0 W):=fun _ X Y row hs hg hr =>
 ⟨hg.os.trans hs.os,hg.tape.trans hs.tape,hg.output.trans hs.output,lAe hs.size hg.size,fun k hk hn=>(hg.block k (Nat.lt_of_lt_of_le hk hs.size) (fun e=>by have:=(hr k e.symm).1;omega)).trans (hs.block k hk hn)⟩
theorem Far.aside{S:Nat->Prop}{N:Nat}{w0 A B:World}(h:Far S w0 A)(g:Aside N A B)(hN:w0.heap.size<=N):Far S w0 B :=
 ⟨g.os.trans h.os,g.tape.trans h.tape,g.output.trans h.output,lAe h.size g.size,fun k hk hn=>by
   have:=h.block k hk hn
   rw [<- this];have hlt:k<A.heap.size:=Nat.lt_of_lt_of_le hk h.size;rw [Array.getElem?_eq_getElem hlt]
   exact g.block k _ (Array.getElem?_eq_getElem hlt) (.inl (by omega))⟩
theorem Blk.aside{W W':World}{b t N:Nat}{c:Array Value}(h:Blk W b t c)(g:Aside N W W')(hb:b<N):Blk W' b t c:=g.block _ _ h (.inl hb)
def v2b(D:Nat):Deferred:={ target:=.collected D,args:=#[] }
theorem z7t(F:List Nd)(hl:∀ (q:Nat) (x:Nd),F[q]?=some x->0<x.l/\x.l<=32):∀ a,Zn F 32 a=0:=by
 intro a
 induction a with
 | zero=>rfl
 | succ a ih =>
   unfold Zn;rw [if_neg,ih];unfold lev
   cases h:F[a+1]? with
   | none=>simp
   | some x=>have:=hl _ x h;simp;omega
theorem z3j{op:Oper}{a:Act}{w:World}{K:Act->World->Prop}{Q:Exit->Act->World->Prop}(x:Operand)(ho:op.op=.load 294 x)(b:Nat)(hx:a.eval x=.pointer (some ⟨b,0,none⟩)){A:Array Value}(hb:Blk w b 294 A)(hs:A.size=96)
 (h:K (a.put op.dst (.agg A)) w):op.wp Tryz.prog a w K Q:=by
 unfold Oper.wp execOp;simp only [ho,hx,Sem.run_bind,Sem.run_pure,Result.andThen_ok,v1x hb hs];exact h
theorem O5{op:Oper}{a:Act}{w:World}{K:Act->World->Prop}{Q:Exit->Act->World->Prop}(x y:Operand)(ho:op.op=.store 294 x y)(b:Nat)(hx:a.eval x=.pointer (some ⟨b,0,none⟩)){A B:Array Value}(hy:a.eval y=.agg B)(hb:Blk w b 294 A)(hs:A.size=96)(hs':B.size=96)(h1:B.all (·.oneCell')=true)
 (h:K (a.put op.dst undef) (w.setRow b B)):op.wp Tryz.prog a w K Q:=by
 unfold Oper.wp execOp;simp only [ho,hx,hy,Sem.run_bind,Sem.run_pure,Result.andThen_ok,x9w hb hs hs' h1];exact h
theorem x3e(F:List Nd)(hl:∀ (q:Nat) (x:Nd),F[q]?=some x->0<x.l/\x.l<=32)(h32:lev F 0=32)(j a:Nat)(hj:j<32):Zn F (j+1) a<=a/\j<lev F (Zn F (j+1) a):=by
 by_cases h:j+1<32
 ·have:=Yi F (j+1) (by omega) a
  exact ⟨this.1,by omega⟩
 ·obtain rfl:j=31:=by omega
  rw [z7t F hl];omega
theorem Vz{P:Program}{fn:Func}{i:Nat}{t:TypeId}(h:fn.results=#[.cell i t]){tmps:Array Value}{b:Addr}{v:Value}{W:World}(h2:tmps.getD i undef=.pointer (some b))(h3:(loadVar t b).run P W=.ok v W):(results fn tmps).run P W=.ok v W:=by
 unfold results;rw [h];simp only [List.mapM_toArray,List.mapM_cons,List.mapM_nil,h2];simp [asAddr,h3]
theorem Blk.setOther3{W:World}{b b' t:Nat}{c:Array Value}(h:Blk W b t c)(hne:b≠b')(o1 o2 o3:Nat)(v1 v2 v3:Value):Blk (((W.setCell ⟨b',o1,none⟩ v1).setCell ⟨b',o2,none⟩ v2).setCell ⟨b',o3,none⟩ v3) b t c :=
 ((h.setOther o1 v1 hne).setOther o2 v2 hne).setOther o3 v3 hne
theorem Far.set3(b:Nat)(V:World)(o1 o2 o3:Nat)(v1 v2 v3:Value):Far (fun k=>k=b) V (((V.setCell ⟨b,o1,none⟩ v1).setCell ⟨b,o2,none⟩ v2).setCell ⟨b,o3,none⟩ v3) :=
 Far.set (S:=fun k=>k=b) (Far.set (S:=fun k=>k=b) (Far.set (S:=fun k=>k=b) (Far.refl _ V) ⟨b,o1,none⟩ v1 (.inl rfl)) ⟨b,o2,none⟩ v2 (.inl rfl)) ⟨b,o3,none⟩ v3 (.inl rfl)
def F9(W:World)(c:Nat):Int:=match W.cell? ⟨c,2,none⟩ with|some v=>intOf v|none=>0
structure LoopS (w:World) (F:List Nd) (a K:Nat) (caps zw:Array Value) (b0 bA k:Nat) (A:Array Value) (ds:List Nat) (W:World):Prop where
 kA:Blk W bA 292 (U7 F k (Zn F k a))
 kW:Blk W (b0+1+1) 294 A
 size:A.size=96
 at':∀ j i,k<=j->j<32->i<3->A[j*3+i]?=(U7 F j (Zn F j a))[i]?
 k0:Blk W b0 317 #[.func (.func K) #[] caps]
 kR:Blk W (b0+1) 294 zw
 below:Below b0 w W
 nodup:ds.Nodup
 marks:∀ D∈ds,W.heap[D]?=some (.deferred (some []))/\b0<=D
theorem LoopS.next{w:World}{F:List Nd}{a K:Nat}{caps zw:Array Value}{b0 bA j:Nat}{A:Array Value}{ds:List Nat}{W Wr V:World}(h:LoopS w F a K caps zw b0 bA (j+1) A ds W)(n0:b0≠bA/\b0+1≠bA/\b0+2≠bA)(n1:b0<=bA)
 (hWr:Far (fun b=>b=bA) W Wr) (hV:Far (fun b=>b=bA) Wr V) (hb:b0=w.heap.size) {D:Nat} (hD:Wr.heap.size<=D) (hVD:V.heap[D]?=some (.deferred (some []))) (kV:Blk V bA 292 (U7 F j (Zn F j a))) (v:Value) (hv:adr F (Zn F j a)=v) :
 LoopS w F a K caps zw b0 bA j (((A.setIfInBounds (j*3) v).setIfInBounds (j*3+1) (.int .i64 ((Zn F j a:Int)-1))).setIfInBounds (j*3+2) (.int .i64 j)) (D :: ds)
  (((V.setCell ⟨b0+1+1,j*3,none⟩ v).setCell ⟨b0+1+1,j*3+1,none⟩ (.int .i64 ((Zn F j a:Int)-1))).setCell ⟨b0+1+1,j*3+2,none⟩ (.int .i64 j)):=by
 have f2:Far (fun b=>b=bA) W V:=hWr.trans hV (fun k e=>.inl e);have kWV:=f2.blk h.kW (by omega);have f3:=Far.set3 (b0+1+1) V (j*3) (j*3+1) (j*3+2) v (.int .i64 ((Zn F j a:Int)-1)) (.int .i64 j);have hs:=h.size;refine ⟨Blk.setOther3 kV (by omega) _ _ _ _ _ _,((kWV.set (j*3) _).set (j*3+1) _).set (j*3+2) _,by simpa using h.size,?_,Blk.setOther3 (f2.blk h.k0 (by omega)) (by omega) _ _ _ _ _ _,Blk.setOther3 (f2.blk h.kR (by omega)) (by omega) _ _ _ _ _ _,?_,?_,?_⟩
 ·intro j' i h1 h2 h3;simp only [Array.getElem?_setIfInBounds,Array.size_setIfInBounds]
  by_cases e:j'=j
  ·subst e;unfold U7;rw [hv];have h4:i=0\/i=1\/i=2:=by omega
   rcases h4 with rfl|rfl|rfl
   ·rw [if_neg (by omega),if_neg (by omega),if_pos (by omega),if_pos (by omega)];rfl
   ·rw [if_neg (by omega),if_pos (by omega),if_pos (by omega)];rfl
   ·rw [if_pos (by omega),if_pos (by omega)];rfl
  ·rw [if_neg (by omega),if_neg (by omega),if_neg (by omega)];exact h.at' j' i (by omega) h2 h3
 ·have z1:=h.below.size;have z2:=f2.size
  exact ⟨f3.os.trans (f2.os.trans h.below.os),f3.tape.trans (f2.tape.trans h.below.tape),f3.output.trans (f2.output.trans h.below.output),by have:=f3.size;omega,fun q hq =>
   (f3.block q (by omega) (by omega)).trans ((f2.block q (by omega) (by omega)).trans (h.below.block q hq))⟩
 ·refine List.nodup_cons.2 ⟨fun e=>?_,h.nodup⟩
  have:=(Array.getElem?_eq_some_iff.1 (h.marks _ e).1).1
  have:=hWr.size
  omega
 ·intro D' hD'
  have key:∀ o,V.heap[D']?=some (.deferred o)->(((V.setCell ⟨b0+1+1,j*3,none⟩ v).setCell ⟨b0+1+1,j*3+1,none⟩ (.int .i64 ((Zn F j a:Int)-1))).setCell ⟨b0+1+1,j*3+2,none⟩ (.int .i64 j)).heap[D']?=some (.deferred o):=by
   intro o ho
   have hne:D'≠b0+1+1:=fun e=>by
    subst e
    have:=(show V.heap[b0+1+1]?=_ from kWV).symm.trans ho
    cases this
   rw [Below.heap_setCell _ _ _ _ hne,Below.heap_setCell _ _ _ _ hne,Below.heap_setCell _ _ _ _ hne];exact ho
  have z1:=h.below.size;have z2:=hWr.size;rcases List.mem_cons.1 hD' with rfl|hD'
  ·exact ⟨key _ hVD,by omega⟩
  ·obtain ⟨y1,y2⟩:=h.marks _ hD';refine ⟨key _ ?_,y2⟩;have y3:=(Array.getElem?_eq_some_iff.1 y1).1
   have hne:D'≠bA:=fun e=>by
    subst e
    have:=(show W.heap[D']?=_ from h.kA).symm.trans y1
    cases this
   exact (f2.block _ y3 hne).trans y1
theorem LoopS.lev{w:World}{F:List Nd}{a K:Nat}{caps zw:Array Value}{b0 bA k:Nat}{A:Array Value}{ds:List Nat}{W:World}(h:LoopS w F a K caps zw b0 bA k A ds W):F9 W bA=(k:Int):=by unfold F9;rw [h.kA.cell 2];rfl
structure Asks (w:World) (F:List Nd) (a:Nat) (K:Nat) (caps:Array Value):Prop where
 enter:∀ args w,(callFunc K args).run Tryz.prog w=.ok (.enter K args) w
 call:∀ k q W,k<32->0<q->q<F.length->Bl w W->Calls Tryz.prog K (#[stp F k q]++caps) W fun e w'=>e=.returned (.bool (decide (q<=a)))/\Bl W w'
theorem z7a(p:Nat)(L:List Nd)(F:List Nd)(hF:F=hd p :: L)(ah:Nat->Value)(n:Int)(w:World)(hw:Sk w F (lk0 F) ah n)(hN:F.length<=1000000)(a:Nat)(ha:a<F.length)(K:Nat)(caps:Array Value)(hA:Asks w F a K caps) :
 Calls Tryz.prog 205 #[.pointer (some ⟨p,0,none⟩),.func (.func K) #[] caps] w fun e w'=>e=.returned (.agg (Ys F a))/\Bl w w':=by
 refine (callsIn_wide (n:=6)).1 (callsIn_of_wp_marks Tryz.func205 rfl trivial ?_ rfl);refine wpIn_wide.2 ?_;simp only [Tryz.ntmps205,List.size_toArray,List.length_cons,List.length_nil,Nat.reduceAdd,Nat.reduceSub,Array.replicate_succ,Array.replicate_zero,List.push_toArray,List.append_toArray,List.nil_append,List.cons_append];have hz:=y4r;have h32:lev F 0=32:=by rw [hF];rfl
 have had:adr F 0=.pointer (some ⟨p,0,none⟩):=by rw [hF];rfl
 clear hF;have HST:=fun w=>jY (x0b p 32 w);generalize hzw:zW=zw at *;go_wp2_with fail;refine (HST _).out.mono ?_;rintro e w1 ⟨rfl,hb1⟩;have k83:=((Blk.new w 317 #[.func (.func K) #[] caps]).alloc (Obj.cells zw 294)).alloc (Obj.cells zw 294);have kR:=(Blk.new (w.alloc (Obj.cells #[.func (.func K) #[] caps] 317)) 294 zw).alloc (Obj.cells zw 294);have kW:=Blk.new ((w.alloc (Obj.cells #[.func (.func K) #[] caps] 317)).alloc (Obj.cells zw 294)) 294 zw;have hbw:Bl w w1:=((((Below.refl _ _).alloc (lAd _) _).alloc (by simp) _).alloc (by simp;omega) _).trans (hb1.mono (by simp;omega));have q83:=k83.later hb1;have qR:=kR.later hb1;have qW:=kW.later hb1;simp only [World.size_alloc] at qR qW;have HB:=jY hbw;have H83:=jY q83;have HR:=jY qR;have HW:=jY qW;clear hb1 k83 kR kW hbw q83 qR qW;go_wp2_with fail;rename_i K1 hK1;have HK1:=jY hK1;clear hK1;have kA:=Blk.new w1 292 #[.pointer (some ⟨p,0,none⟩),.int .i64 (-1),.int .i64 32];have hb2:Bl w1 (w1.alloc (.cells #[.pointer (some ⟨p,0,none⟩),.int .i64 (-1),.int .i64 32] 292)):=(Below.refl _ _).alloc (lAd _) _;have k0:=H83.out.later hb2;have kR:=HR.out.later hb2;have kW:=HW.out.later hb2;have hB2:=HB.out.trans (hb2.mono HB.out.size);have hz1:=HB.out.size;generalize hw2:w1.alloc (.cells #[.pointer (some ⟨p,0,none⟩),.int .i64 (-1),.int .i64 32] 292)=w2 at *;generalize hbA:w1.heap.size=bA at *
 have n0:w.heap.size≠bA/\w.heap.size+1≠bA/\w.heap.size+2≠bA:=by
  have h1:=HW.out.lt;omega
 generalize hb0:w.heap.size=b0 at *;have H83:=jY k0;have HR:=jY kR;have HW:=jY kW;have HAt:=jY kA;have HB2:=jY hB2;clear hw2 HB HST k0 kR kW kA hb2 hB2
 refine wp_loop (fun ac W=>∃ (k:Nat) (A:Array Value) (ds:List Nat) (u2 u7 u8 u9 u10 u11 u12 u13 u14 u15 u16 u17 u18 u19 u20 u21 u22 u23 u24 u25 u26 u27 u28 u29:Value),ac={ tmps:=#[.pointer (some ⟨p,0,none⟩),.func (.func K) #[] caps,u2,.pointer (some ⟨b0,0,none⟩),.pointer (some ⟨(b0+1),0,none⟩),.pointer (some ⟨(b0+1+1),0,none⟩),.pointer (some ⟨bA,0,none⟩),u7,u8,u9,u10,u11,u12,u13,u14,u15,u16,u17,u18,u19,u20,u21,u22,u23,u24,u25,u26,u27,u28,u29],defers:=ds.map v2b }/\k<=32/\LoopS w F a K caps zw b0 bA k A ds W)
  (fun _ W=>(F9 W bA).toNat) ?start ?round
 case start =>
  refine ⟨32,zw,[],undef,undef,.pointer (some ⟨p,0,none⟩),_,undef,undef,undef,undef,undef,undef,undef,undef,undef,undef,undef,undef,undef,undef,undef,undef,undef,undef,undef,undef,rfl,lAd _,?_,HW.out,?_,fun j i h1 h2=>absurd h2 (by omega),H83.out,HR.out,HB2.out,List.nodup_nil,fun D h=>by simp at h⟩
  ·rw [z7t F hw.lev];unfold U7;rw [had];exact HAt.out
  ·rw [<- hzw];exact Ig
 case round =>
  rintro ac W ⟨k,A,ds,u2,u7,u8,u9,u10,u11,u12,u13,u14,u15,u16,u17,u18,u19,u20,u21,u22,u23,u24,u25,u26,u27,u28,u29,rfl,hk,hLS⟩;have HLS:=jY hLS;obtain ⟨kA,kW,hAs,hAt,k0,kR,hB,hnd,hds⟩:=hLS;have hlv:F9 W bA=(k:Int):=by unfold F9;rw [kA.cell 2];rfl
  obtain ⟨f0,f1,f2,f3,f4,f5⟩:=Uu kA
  by_cases hk0:k=0
  ·subst hk0;have hAw:A=Ys F a:=v0b hAs (fun j i h1 h2=>hAt j i (by omega) h1 h2);have KW:=jY kW;have KR0:=jY kR;have KR:=jY (kR.setRow A);clear kA kW kR k0 hAt;go_wp2_with fail;refine HK1.out _ _ ?_;refine wp_seq (wp_region_lit ?_);refine wpList_plain rfl fun K2 hK2=>z3j _ rfl _ rfl KW.out hAs ?_;refine hK2 _ _ (wpList_plain rfl fun K3 hK3=>O5 _ _ rfl _ rfl rfl KR0.out ?_ hAs ?_ ?_)
   ·rw [<- hzw];exact Ig
   ·rw [hAw];exact Ie F a
   refine hK3 _ _ ?_;go_wp2_with fail;refine x8l (v:=.agg A) ds _ hnd (fun D hD=>(U0 A (fun e=>?_)).trans (hds D hD).1) (fun W' z1 z2 z3 z4 z5=>?_)
   ·have:=(hds D hD).1.symm.trans (e ▸ KR0.out)
    cases this
   ·have kb:Blk W' (b0+1) 294 A:=(z5 _ (fun e=>by have:=(hds _ e).1.symm.trans KR0.out;cases this)).trans KR.out;refine ⟨?_,by rw [hAw],?_⟩
    ·exact Vz (Tryz.results205) (b:=⟨b0+1,0,none⟩) rfl (Dq kb hAs)
    ·refine ⟨z2.trans hB.os,z3.trans hB.tape,z4.trans hB.output,by rw [z1,Qy];exact hB.size,fun q hq=>?_⟩;rw [hb0] at hq;exact (z5 q (fun e=>by have:=(hds _ e).2;omega)).trans ((U0 A (by omega)).trans (hB.block q hq))
  ·obtain ⟨j,rfl⟩:∃ j,k=j+1:=⟨k-1,by omega⟩;have KA:=jY kA;have KW:=jY kW;have KR:=jY kR;have K0:=jY k0;have HAT:=jY hAt;have HND:=jY hnd;have HDS:=jY hds;clear kA kW kR k0 hAt hnd hds;go_wp2_with fail;refine wp_scope_straight ?_;go_wp2_with fail;refine wp_label ?_;go_wp2_with fail;rename_i K2 hK2;have HK2:=jY hK2;clear hK2;obtain ⟨g1,g2⟩:=x3e F hw.lev h32 j a (by omega);have hq0:Zn F (j+1) a<F.length:=by omega
   obtain ⟨x0,hx0⟩:∃ x0,F[Zn F (j+1) a]?=some x0:=⟨_,lAa hq0⟩;have hl0:=X8 hx0;have kAr:Blk (W.setCell ⟨bA,2,none⟩ (.int .i64 j)) bA 292 (U7 F j (Zn F (j+1) a)):=KA.out.set 2 (.int .i64 j);have hWr:Far (fun b=>b=bA) W (W.setCell ⟨bA,2,none⟩ (.int .i64 j)):=(Far.refl _ _).set _ _ (.inl rfl);have hsz:(W.setCell ⟨bA,2,none⟩ (.int .i64 j)).heap.size=W.heap.size:=by simp [World.setCell]
   generalize W.setCell ⟨bA,2,none⟩ (.int .i64 j)=Wr at *
   have hBr:Below b0 w Wr:=⟨hWr.os.trans hB.os,hWr.tape.trans hB.tape,hWr.output.trans hB.output,lAe hB.size hWr.size,fun q hq=>by
    exact (hWr.block q (by have:=hB.size;omega) (by omega)).trans (hB.block q hq)⟩
   have hSr:Sk Wr F (lk0 F) ah n:=hw.later (by have e:=hBr;rw [<- hb0] at e;exact e);have hnB:¬ isB F bA:=hSr.not_ty kAr (fun q=>(z0m q).1);have hAr:=kAr.lt;have hseq:=Qb F ah n Wr j (Zn F (j+1) a) x0 (by omega) hx0 (by omega) hN [bA] hSr (by simpa using hnB) (by simpa using hAr)
   have fin:∀ D V,Wr.heap.size<=D->Blk V bA 292 (U7 F j (Zn F j a))->Far (fun b=>b=bA) Wr V->V.heap[D]?=some (.deferred (some [])) ->
    K2 { tmps:=#[.pointer (some ⟨p,0,none⟩),.func (.func K) #[] caps,u2,.pointer (some ⟨b0,0,none⟩),.pointer (some ⟨b0+1,0,none⟩),.pointer (some ⟨b0+1+1,0,none⟩),.pointer (some ⟨bA,0,none⟩),u7,u8,u9,.pointer (some ⟨bA,2,none⟩),.int .i64 ((j:Int)+1),.bool true,.pointer (some ⟨bA,2,none⟩),.int .i64 ((j:Int)+1),.int .i64 j,.pointer (some ⟨bA,2,none⟩),.agg #[adr F (Zn F (j+1) a),.int .i64 ((Zn F (j+1) a:Int)-1),.int .i64 j],.func (.func 224) #[.agg #[adr F (Zn F (j+1) a),.int .i64 ((Zn F (j+1) a:Int)-1),.int .i64 j]] #[],u19,u20,u21,u22,u23,u24,u25,u26,u27,u28,u29],defers:=v2b D :: ds.map v2b } V:=by
    intro D V hD kV hV hVD;refine HK2.out _ _ ?_;have hlt:Zn F j a<F.length:=by have:=(Yi F j (by omega) a).1;omega
    obtain ⟨z,hz2⟩:∃ z,F[Zn F j a]?=some z:=⟨_,lAa hlt⟩;have haz:=Yk hz2;have kV0:=jY kV;unfold U7 at kV;rw [haz] at kV;obtain ⟨f0,f1,f2,f3,f4,f5⟩:=Uu kV;have kWV:=hV.blk (hWr.blk KW.out (by omega)) (by omega);have c0:=kWV.cell (j*3);have c1:=kWV.cell (j*3+1);have c2:=kWV.cell (j*3+2);rw [Array.getElem?_eq_getElem (by omega)] at c0 c1 c2;have d0:=kWV.free (j*3);have d1:=kWV.free (j*3+1);have d2:=kWV.free (j*3+2);have HV:=jY hV;have KV:=jY kV;have KWV:=jY kWV;clear hV kV kWV hseq;go_wp2_with fail;simp only [Exit.noGoto,Exit.inBlock];have hnx:=HLS.out.next n0 hz1 hWr HV.out hb0.symm hD hVD kV0.out _ haz;refine ⟨⟨j,_,D :: ds,_,_,_,_,_,_,_,_,_,_,_,_,_,_,_,_,_,_,_,_,_,_,_,_,rfl,by omega,hnx⟩,?_⟩;rw [hlv,hnx.lev];omega
   refine (wpIn_wide (n:=6)).1 (Fj (gf:=224) (encs:=y7e F j) (xs:=steps F j (Zn F (j+1) a)) (L:=[bA]) rfl (enters_of Tryz.func224 (by kernel_rfl) rfl) hseq (fun _ _=>rfl)
    (fun i V=>∃ q,q<=a/\j<lev F q/\q<F.length/\(steps F j (Zn F (j+1) a)).drop i=steps F j q/\Blk V bA 292 (U7 F j q)/\Far (fun b=>b=bA) Wr V)
    (fun c _ V=>match c with
      | .exit id=>id=2/\Blk V bA 292 (U7 F j (Zn F j a))/\Far (fun b=>b=bA) Wr V
      | _=>False)
    ?hI ?hIx ?hIa ?hIxa ?h0 (fun _ x a' V=>∃ c,(c≠bA/\Wr.heap.size<=c/\a'={ tmps:=#[.pointer (some ⟨p,0,none⟩),.func (.func K) #[] caps,u2,.pointer (some ⟨b0,0,none⟩),.pointer (some ⟨b0+1,0,none⟩),.pointer (some ⟨b0+1+1,0,none⟩),.pointer (some ⟨bA,0,none⟩),.pointer (some ⟨c,0,none⟩),u8,u9,.pointer (some ⟨bA,2,none⟩),.int .i64 ((j:Int)+1),.bool true,.pointer (some ⟨bA,2,none⟩),.int .i64 ((j:Int)+1),.int .i64 j,.pointer (some ⟨bA,2,none⟩),.agg #[adr F (Zn F (j+1) a),.int .i64 ((Zn F (j+1) a:Int)-1),.int .i64 j],.func (.func 224) #[.agg #[adr F (Zn F (j+1) a),.int .i64 ((Zn F (j+1) a:Int)-1),.int .i64 j]] #[],stp F j x,u20,u21,u22,u23,u24,u25,u26,u27,u28,u29],defers:=[] })/\Blk V c 292 (U7 F j x)) ?hAx ?assign ?body ?done ?stop)
   case hI=>exact Zz fun q=>(Z4 _ _).and ((Z4 _ _).and ((Z4 _ _).and ((Z4 _ _).and ((Zh _ _ _ _).and (y5v (lAd _))))))
   case hIx =>
    intro c
    cases c with
    | exit id=>exact (Z4 _ _).and ((Zh _ _ _ _).and (y5v (lAd _)))
    | _=>exact Z4 _ _
   case hIa =>
    rintro N hN2 i A B ⟨q,h1,h2,h3,h4,h5,h6⟩ hab;exact ⟨q,h1,h2,h3,h4,h5.aside hab (by omega),h6.aside hab hN2⟩
   case hIxa =>
    rintro c N hN2 i A B h hab
    cases c with
    | exit id=>exact ⟨h.1,h.2.1.aside hab (by omega),h.2.2.aside hab hN2⟩
    | _=>exact h
   case h0=>exact ⟨_,g1,g2,hq0,rfl,kAr,Far.refl _ _⟩
   case hAx=>exact fun i x a'=>Zz fun c=>(Z4 _ _).and (Zh _ _ _ _)
   case assign =>
    rintro l i x V K' hx' ⟨q,h1,h2,h3,h4,h5,h6⟩ hK;have hx2:=z2j.1 (lAc hx');obtain ⟨y,hy⟩:∃ y,F[x]?=some y:=⟨_,lAa hx2.2.1⟩;have hay:=Yk hy;have HK3:=jY hK;have HI:=jY (And.intro h1 (And.intro h2 (And.intro h3 (And.intro h4 (And.intro h5 h6)))));have hzV:=h6.size;clear hK h1 h2 h3 h4 h5 h6 fin hseq hx';unfold y7e stp;rw [hay];gi_wp2;have hbV:=(Below.refl V.heap.size V).alloc (lAd _) (Obj.cells #[Value.pointer (some ⟨y.b,0,none⟩),Value.int IntKind.i64 ((x:Int)-1),Value.int IntKind.i64 j] 292);obtain ⟨h1,h2,h3,h4,h5,h6⟩:=HI.out;refine HK3.out _ _ (Ob hbV) (KeepC.of_below hbV) ⟨q,h1,h2,h3,h4,h5.later hbV,h6.then_below hbV⟩ ⟨V.heap.size,⟨?_,hzV,?_⟩,?_⟩
    ·have:=h5.lt;omega
    ·unfold stp;rw [hay]
    ·unfold U7;rw [hay];exact Blk.new _ _ _
   case body =>
    rintro l i x a' V hx' ⟨q,h1,h2,h3,h4,h5,h6⟩ ⟨c,⟨hc1,hc2,rfl⟩,kc⟩;have hx2:=z2j.1 (lAc hx');obtain ⟨y,hy⟩:∃ y,F[x]?=some y:=⟨_,lAa hx2.2.1⟩;have hay:=Yk hy
    have hxn:x=nxt F j q:=by
     have e1:=(Yy F j q h3).2.2.2.2
     have e2:(steps F j q)[0]?=some x:=by
      rw [<- h4,List.getElem?_drop]
      simpa using hx'
     rw [e1] at e2
     split at e2
     ·simpa using e2.symm
     ·simp at e2
    have hdx:(steps F j (Zn F (j+1) a)).drop (i+1)=steps F j x:=by
     have e1:=(Yy F j q h3).2.2.2.2;rw [<- hxn] at e1;rw [if_pos hx2.2.1] at e1
     have:=congrArg (List.drop 1) (h4.trans e1)
     simpa using this
    have k0V:=h6.blk (hWr.blk K0.out (by omega)) (by omega)
    have hcall:=hA.call j x V (by omega) (by omega) hx2.2.1 (by
     suffices e:Below b0 w V by rw [<- hb0] at e;exact e
     have z1:=hBr.size
     exact ⟨h6.os.trans hBr.os,h6.tape.trans hBr.tape,h6.output.trans hBr.output,lAe z1 h6.size,fun q hq=>(h6.block q (by omega) (by omega)).trans (hBr.block q hq)⟩)
    have henter:=hA.enter;have kcF:=kc.free;unfold U7 at kc;rw [hay] at kc;obtain ⟨f0,f1,f2,f3,f4,f5⟩:=Uu kc;obtain ⟨e0,e1⟩:=Z5 k0V;unfold stp at hcall;rw [hay] at hcall;have HC:=jY hcall;have HXN:=jY hxn;have HDX:=jY hdx;clear hxn hdx;have H5:=jY h5;have H6:=jY h6;have KC:=jY kc;clear hcall h5 h6 kc k0V fin hseq kcF hx' hy;gi_wp2;refine ⟨trivial,?_⟩;refine (CallsIn.inRound l (callsIn_wide.2 HC.out)).mono ?_;rintro e W5 ⟨rfl,hb5⟩;have kc5:=KC.out.later hb5;have kA5:=H5.out.later hb5;have hF5:=H6.out.then_below hb5;have KA5:=jY kA5;have HF5:=jY hF5;have HB5:=jY hb5;clear f0 f1 f2 f3 f4 f5 e0 e1
    by_cases hxa:x<=a
    ·have hda:decide (x<=a)=true:=by simpa using hxa
     rw [hda];obtain ⟨f0,f1,f2,f3,f4,f5⟩:=Uu kc5;unfold U7 at kA5;obtain ⟨d0,d1,d2,d3,d4,d5⟩:=Uu kA5;clear kc5 kA5 hF5 hb5;gi_wp2;refine ⟨?_,?_,x,hxa,hx2.2.2,hx2.2.1,HDX.out,?_,?_⟩
     ·exact Ky (Ob HB5.out) (Ky (Di KA5.out 0 _) (Ky (Di (KA5.out.set 0 _) 1 _) (Di ((KA5.out.set 0 _).set 1 _) 2 _)))
     ·exact (KeepC.of_below HB5.out).trans ((KeepC.set _ _ _ _ (by simp)).trans ((KeepC.set _ _ _ _ (by simp)).trans (KeepC.set _ _ _ _ (by simp))))
     ·have:=((KA5.out.set 0 (.pointer (some ⟨y.b,0,none⟩))).set 1 (.int .i64 ((x:Int)-1))).set 2 (.int .i64 j)
      unfold U7;rw [hay];exact this
     ·exact HF5.out.trans (Far.set3 bA W5 0 1 2 _ _ _) (fun k e=>.inl e)
    ·have hda:decide (x<=a)=false:=by simpa using hxa
     rw [hda];gi_wp2;refine ⟨Ob HB5.out,rfl,?_,HF5.out⟩;have e1:=Yy F j q h3
     have:=HXN.out
     rw [J0 (by omega) h1 h2 (fun i hi1 hi2=>e1.2.2.1 i hi1 (by omega))];exact KA5.out
   case done =>
    rintro D V hD ⟨q,h1,h2,h3,h4,h5,h6⟩ hVD;refine fin D V hD ?_ h6 hVD;have e1:=(Yy F j q h3);have e2:steps F j q=[]:=by rw [<- h4];simp
    have e3:¬ nxt F j q<F.length:=fun e=>by
     have:=e1.2.2.2.2
     rw [if_pos e,e2] at this
     cases this
    rw [J0 (by omega) h1 h2 (fun i hi1 hi2=>e1.2.2.1 i hi1 (by omega))];exact h5
   case stop =>
    rintro D c i V hD h hVD
    cases c with
    | exit id =>
      obtain ⟨rfl,h1,h2⟩:=h;refine wpIn_wide.2 ?_;go_wp2_with fail;exact fin D V hD h1 h2 hVD
    | _=>exact h.elim
theorem Za{W:World}{b:Nat}{t:TypeId}{c0 c1:Value}(h:Blk W b t #[c0,c1]):W.cell? ⟨b,0,none⟩=some c0/\W.cell? ⟨b,1,none⟩=some c1/\W.frozen? ⟨b,0,none⟩=false/\W.frozen? ⟨b,1,none⟩=false :=
 ⟨h.cell 0,h.cell 1,h.free 0,h.free 1⟩
def Yc(m:ByteArray)(s:Int)(m':ByteArray)(s':Int):Bool:=decide (s<s'\/s=s'/\m.data.toList<m'.data.toList)
theorem v0d(a b:ByteArray):Op.bytesLess a.toList b.toList=decide (a.data.toList<b.data.toList):=by
 rw [Lib.toList_data,Lib.toList_data,bytesLess_eq]
theorem z7x(m m':ByteArray)(s s':Int)(w:World):Calls Tryz.prog 207 #[.agg #[.string m,.int .i64 s],.agg #[.string m',.int .i64 s']] w fun e w'=>e=.returned (.bool (Yc m s m' s'))/\Bl w w':=by
 have hb:Bl w ((w.alloc (.cells #[.string m,.int .i64 s] 94)).alloc (.cells #[.string m',.int .i64 s'] 94)):=((Below.refl _ _).alloc (lAd _) _).alloc (by simp) _;have HB:=jY hb;clear hb
 by_cases h:s=s'
 ·have e1:(s==s')=true:=by simpa using h
  have e2:(s != s')=false:=by simpa using h
  have H:=jY h;clear h
  go_enter Tryz.func207,Tryz.ntmps207
  go_wp2;go_ret;refine ⟨congrArg (fun b=>Ending.returned (.bool b)) ?_,HB.out⟩;rw [v0d]
  have:=H.out
  subst this;simp [Yc]
 ·have e1:(s==s')=false:=by simpa using h
  have e2:(s != s')=true:=by simpa using h
  go_enter Tryz.func207,Tryz.ntmps207
  go_wp2;go_ret;refine ⟨congrArg (fun b=>Ending.returned (.bool b)) ?_,HB.out⟩;simp [Yc,h]
variable {w:World} {F:List Nd} {ah:Nat->Value} {n:Int}
theorem y0m(c:Nat)(place:Int)(hc:Blk w c 3 #[.int .i64 place])(a:Nat)(ha:∀ q,0<q->q<F.length->(((q:Int)-1<place)↔q<=a)):Asks w F a 304 #[.pointer (some ⟨c,0,none⟩)]:=by
 refine ⟨enters_of Tryz.func304 (by kernel_rfl) rfl,fun k q W hk h0 hq hb=>?_⟩;have k1:=hc.later hb;obtain ⟨e0,e1⟩:=Z5 k1;have z1:=k1.lt;obtain ⟨x,hx⟩:∃ x,F[q]?=some x:=⟨_,lAa hq⟩;have hax:=Yk hx;have hqa:=jY (ha q h0 hq);unfold stp;rw [hax];clear hc ha h0 hq hb k1 hx hax
 go_enter Tryz.func304,Tryz.ntmps304
 go_wp2;go_ret;refine ⟨congrArg (fun b=>Ending.returned (.bool b)) ?_,(Below.refl _ _).alloc (lAd _) _⟩;rw [decide_eq_decide];exact hqa.out
theorem y0l(c:Nat)(m:ByteArray)(s:Int)(hc:Blk w c 94 #[.string m,.int .i64 s])(hw:Sk w F (lk0 F) ah n)(a:Nat)(ha:∀ q x,0<q->F[q]?=some x->Yc x.m x.s m s=decide (q<=a)):Asks w F a 206 #[.pointer (some ⟨c,0,none⟩)]:=by
 refine ⟨enters_of Tryz.func206 (by kernel_rfl) rfl,fun k q W hk h0 hq hb=>?_⟩;have k1:=hc.later hb;have hS:=hw.later hb;obtain ⟨x,hx⟩:∃ x,F[q]?=some x:=⟨_,lAa hq⟩;obtain ⟨A,hA,hN⟩:=hS.node q x hx;have hax:=Yk hx;have hqa:=jY (ha q x h0 hx);unfold stp;rw [hax];have HL:=fun w=>jY (z7x x.m m x.s s w);obtain ⟨w1,hw1⟩:∃ w1,w1=W.alloc (.cells #[.pointer (some ⟨x.b,0,none⟩),.int .i64 ((q:Int)-1),.int .i64 k] 292):=⟨_,rfl⟩;have hb1:Bl W w1:=by rw [hw1];exact (Below.refl _ _).alloc (lAd _) _
 have kB:Blk w1 W.heap.size 292 #[.pointer (some ⟨x.b,0,none⟩),.int .i64 ((q:Int)-1),.int .i64 k]:=by rw [hw1];exact Blk.new _ _ _
 have q0:=fun y:Ext w1=>y.cell (Uu kB).1;have q1:=fun y:Ext w1=>y.cell ((hA.later hb1).cell 0 |>.trans hN.m);have q2:=fun y:Ext w1=>y.cell ((hA.later hb1).cell 1 |>.trans hN.s);have q3:=fun y:Ext w1=>y.cell (Za (k1.later hb1)).1;have q4:=fun y:Ext w1=>y.cell (Za (k1.later hb1)).2.1;have HW:=jY hw1;have HB1:=jY hb1;have hne:=Ext.one w1;clear hc hw ha h0 hq hb k1 hS hx hA hN hax hw1 hb1 kB
 go_enter Tryz.func206,Tryz.ntmps206
 go_wp2_with fail;rw [<- HW.out];refine Zd (w1:=w1) (by kernel_rfl) (by kernel_rfl) (Below.refl _ _) ?_
 iterate 8 go_big_quiet_step ((go_at_call 207;exact Ext.call _ (HL _).out))
 refine wpQuiet_nil ?_;rintro _ ⟨y,rfl⟩;go_wp2_with fail;go_ret;refine ⟨?_,HB1.out.trans (y.ok.mono HB1.out.size)⟩;rw [<- hqa.out];rfl
variable {w:World} {F:List Nd} {ah:Nat->Value} {n:Int}
theorem Jm(p:Nat)(L:List Nd)(hF:F=hd p :: L)(hw:Sk w F (lk0 F) ah n)(hN:F.length<=1000000)(a:Nat)(ha:a<F.length) :
 Calls Tryz.prog 298 #[.pointer (some ⟨p,0,none⟩),.int .i64 a] w fun e w'=>e=.returned (.agg (Ys F a))/\Bl w w':=by
 have hz:=y4r;have hzs:=Ig;generalize zW=zw at *;have hb1:Bl w ((w.alloc (.cells #[.int .i64 a] 3)).alloc (.cells zw 294)):=((Below.refl _ _).alloc (lAd _) _).alloc (by simp) _;have kC:Blk ((w.alloc (.cells #[.int .i64 a] 3)).alloc (.cells zw 294)) w.heap.size 3 #[.int .i64 a]:=(Blk.new _ _ _).alloc _;have kR:Blk ((w.alloc (.cells #[.int .i64 a] 3)).alloc (.cells zw 294)) (w.heap.size+1) 294 zw:=by have:=Blk.new (w.alloc (.cells #[.int .i64 a] 3)) 294 zw;simpa using this
 have hasks:=y0m (F:=F) w.heap.size a kC a (fun q h1 h2=>by omega);have HD:=jY (z7a p L F hF ah n _ (hw.later hb1) hN a ha 304 _ hasks);have HB1:=jY hb1;have HR:=jY kR;have hw1:=X6 F a;have hw2:=Ie F a;generalize Ys F a=WA at *;clear hb1 kC kR hasks hw hF
 go_enter Tryz.func298,Tryz.ntmps298
 go_wp2_with fail;rename_i Kk hKk;refine HD.out.mono ?_;rintro e w2 ⟨rfl,hb2⟩;have k2:=HR.out.later hb2;have hb3:=HB1.out.trans (hb2.mono HB1.out.size);clear hb2;refine hKk _ _ ?_;refine wpList_plain rfl ?_;intro K2 hK2;refine O5 _ _ rfl _ rfl rfl k2 hzs hw1 hw2 ?_;refine hK2 _ _ ?_;have k3:=k2.setRow WA;go_wp2_with fail;refine bodyPost_ret (Vz Tryz.results298 (b:=⟨w.heap.size+1,0,none⟩) rfl (Dq k3 hw1)) rfl ?_;refine ⟨rfl,hb3.os,hb3.tape,hb3.output,by rw [Qy];exact hb3.size,fun q hq=>(U0 _ (by omega)).trans (hb3.block q hq)⟩
theorem Cs(p:Nat)(L:List Nd)(hF:F=hd p :: L)(hw:Sk w F (lk0 F) ah n)(hN:F.length<=1000000)(m:ByteArray)(s:Int)(a:Nat)(ha:a<F.length)(hq:∀ q x,0<q->F[q]?=some x->Yc x.m x.s m s=decide (q<=a)) :
 Calls Tryz.prog 183 #[.pointer (some ⟨p,0,none⟩),.agg #[.string m,.int .i64 s]] w fun e w'=>e=.returned (.agg (Ys F a))/\Bl w w':=by
 have hz:=y4r;have hzs:=Ig;generalize zW=zw at *;have hb1:Bl w ((w.alloc (.cells #[.string m,.int .i64 s] 94)).alloc (.cells zw 294)):=((Below.refl _ _).alloc (lAd _) _).alloc (by simp) _;have kC:Blk ((w.alloc (.cells #[.string m,.int .i64 s] 94)).alloc (.cells zw 294)) w.heap.size 94 #[.string m,.int .i64 s]:=(Blk.new _ _ _).alloc _;have kR:Blk ((w.alloc (.cells #[.string m,.int .i64 s] 94)).alloc (.cells zw 294)) (w.heap.size+1) 294 zw:=by have:=Blk.new (w.alloc (.cells #[.string m,.int .i64 s] 94)) 294 zw;simpa using this
 have hasks:=y0l (F:=F) w.heap.size m s kC (hw.later hb1) a hq;have HD:=jY (z7a p L F hF ah n _ (hw.later hb1) hN a ha 206 _ hasks);have HB1:=jY hb1;have HR:=jY kR;have hw1:=X6 F a;have hw2:=Ie F a;generalize Ys F a=WA at *;clear hb1 kC kR hasks hw hF hq
 go_enter Tryz.func183,Tryz.ntmps183
 go_wp2_with fail;rename_i Kk hKk;refine HD.out.mono ?_;rintro e w2 ⟨rfl,hb2⟩;have k2:=HR.out.later hb2;have hb3:=HB1.out.trans (hb2.mono HB1.out.size);clear hb2;refine hKk _ _ ?_;refine wpList_plain rfl ?_;intro K2 hK2;refine O5 _ _ rfl _ rfl rfl k2 hzs hw1 hw2 ?_;refine hK2 _ _ ?_;have k3:=k2.setRow WA;go_wp2_with fail;refine bodyPost_ret (Vz Tryz.results183 (b:=⟨w.heap.size+1,0,none⟩) rfl (Dq k3 hw1)) rfl ?_;refine ⟨rfl,hb3.os,hb3.tape,hb3.output,by rw [Qy];exact hb3.size,fun q hq=>(U0 _ (by omega)).trans (hb3.block q hq)⟩
theorem I2(p:Nat)(L:List Nd)(hF:F=hd p :: L)(hw:Sk w F (lk0 F) ah n):Calls Tryz.prog 292 #[.pointer (some ⟨p,0,none⟩)] w fun e w'=>e=.returned (.int .i64 n)/\w'=w:=by
 obtain ⟨A,hA,hN⟩:=hw.node 0 (hd p) (by rw [hF];rfl);have e0:=(hA.cell 67).trans (hN.n rfl);have e1:w.cell? ⟨p,67,none⟩=some (.int .i64 n):=e0;clear hA hN hw hF e0
 go_enter Tryz.func292,Tryz.ntmps292
 go_wp2;go_ret;exact ⟨rfl,rfl⟩
theorem M0(p:Nat)(L:List Nd)(hF:F=hd p :: L)(hw:Sk w F (lk0 F) ah n)(f t:Int):Calls Tryz.prog 302 #[.pointer (some ⟨p,0,none⟩),.int .i64 f,.int .i64 t] w fun e w'=>e=.returned (.tuple #[.int .i64 (max f 0),.int .i64 (min t n)])/\w'=w:=by
 have HL:=jY (I2 p L hF hw);clear hF hw
 go_enter Tryz.func302,Tryz.ntmps302
 go_wp2_with fail;refine HL.out.mono ?_;rintro e w1 ⟨rfl,rfl⟩;go_wp2;go_returns;exact ⟨rfl,rfl⟩
theorem V9{a b:ByteArray}(h:a.toList=b.toList):a=b:=by
 have h1:a.data.toList=b.data.toList:=by rw [<- Lib.toList_data,<- Lib.toList_data];exact h
 cases a;cases b
 simp at h1;rw [h1]
theorem v1h(m m':ByteArray)(s s':Int)(b:Bool)(h:decide (m=m'/\s=s')=b)(W:World) :
 (binOp .eql 94 (.agg #[.string m,.int .i64 s]) (.agg #[.string m',.int .i64 s'])).run Tryz.prog W=.ok (.bool b) W:=by
 by_cases h1:s=s'
 ·by_cases h2:m=m'
  ·rw [h1,h2] at h;simp at h;subst h;rw [h1,h2];simp [go_sem]
  ·have h3:¬ m.toList=m'.toList:=fun e=>h2 (V9 e);simp [h1,h2] at h;subst h;rw [h1];simp [go_sem,h3]
 ·simp [h1] at h;subst h;simp [go_sem,h1]
def Qq(F:List Nd)(q:Nat)(m:ByteArray)(s:Int):Bool:=match F[q]? with
 | some x=>decide (x.m=m/\x.s=s)
 | none=>false
theorem z2a(hw:Sk w F (lk0 F) ah n)(k q:Nat)(hk:k<32)(hq:q<F.length)(hl:k<lev F q)(m:ByteArray)(s:Int):Calls Tryz.prog 184 #[.agg #[adr F q,.int .i64 ((q:Int)-1),.int .i64 k],.agg #[.string m,.int .i64 s]] w fun e w'=>e=.returned (.bool (Qq F (nxt F k q) m s))/\Bl w w':=by
 obtain ⟨x,hx⟩:∃ x,F[q]?=some x:=⟨_,lAa hq⟩;obtain ⟨A,hA,hN⟩:=hw.node q x hx;rw [X8 hx] at hl;obtain ⟨l1,_⟩:=hN.link k hl;have c1:=(hA.cell (3+k*2)).trans l1;unfold lk0 at c1;simp only at c1;have hax:=Yk hx;have HLK:=fun w=>jY (Ox x.b ((q:Int)-1) k hk w);have hb1:Bl w ((w.alloc (.cells #[.pointer (some ⟨x.b,0,none⟩),.int .i64 ((q:Int)-1),.int .i64 k] 292)).alloc (.cells #[.string m,.int .i64 s] 94)):=((Below.refl _ _).alloc (lAd _) _).alloc (by simp) _
 have kE:Blk ((w.alloc (.cells #[.pointer (some ⟨x.b,0,none⟩),.int .i64 ((q:Int)-1),.int .i64 k] 292)).alloc (.cells #[.string m,.int .i64 s] 94)) (w.heap.size+1) 94 #[.string m,.int .i64 s]:=by
  have:=Blk.new (w.alloc (.cells #[.pointer (some ⟨x.b,0,none⟩),.int .i64 ((q:Int)-1),.int .i64 k] 292)) 94 #[.string m,.int .i64 s];simpa using this
 have HB1:=jY hb1;have HE:=jY kE;have HA:=jY hA;rw [hax]
 by_cases hlast:nxt F k q<F.length
 ·obtain ⟨y,hy⟩:∃ y,F[nxt F k q]?=some y:=⟨_,lAa hlast⟩;obtain ⟨B,hB,hNB⟩:=hw.node _ y hy;have d0:=(hB.cell 0).trans hNB.m;have d1:=(hB.cell 1).trans hNB.s;have hv:Qq F (nxt F k q) m s=decide (y.m=m/\y.s=s):=by unfold Qq;rw [hy]
  have HV:=jY hv;have HBB:=jY hB;rw [Yk hy] at c1;clear hw hx hA hN hl l1 hb1 kE hy hB hNB hv hax
  go_enter Tryz.func184,Tryz.ntmps184
  go_wp2_with fail;refine (HLK _).out.mono ?_;rintro e w2 ⟨rfl,hb2⟩;have hb3:=HB1.out.trans (hb2.mono HB1.out.size);have c1':=(hb3.cell (p:=⟨x.b,3+k*2,none⟩) HA.out.lt).trans c1;have d0':=(hb3.cell (p:=⟨y.b,0,none⟩) HBB.out.lt).trans d0;have d1':=(hb3.cell (p:=⟨y.b,1,none⟩) HBB.out.lt).trans d1;obtain ⟨e0,e1,_,_⟩:=Za (HE.out.later hb2);have HB3:=jY hb3;have heq:=v1h y.m m y.s s _ rfl;generalize decide (y.m=m/\y.s=s)=bb at *;clear hb2 hb3 c1 d0 d1;go_wp2_with fail
  go_quiet (fail)
  go_wp2;go_ret;refine ⟨?_,HB3.out.trans ((Zk _ _).mono HB3.out.size)⟩;rw [HV.out];rfl
 ·have hv:Qq F (nxt F k q) m s=false:=by unfold Qq;rw [List.getElem?_eq_none (by omega)]
  have HV:=jY hv;rw [Gn (F:=F) (q:=nxt F k q) (by omega)] at c1;clear hw hx hA hN hl l1 hb1 kE hv hax
  go_enter Tryz.func184,Tryz.ntmps184
  go_wp2_with fail;refine (HLK _).out.mono ?_;rintro e w2 ⟨rfl,hb2⟩;have hb3:=HB1.out.trans (hb2.mono HB1.out.size);have c1':=(hb3.cell (p:=⟨x.b,3+k*2,none⟩) HA.out.lt).trans c1;have HB3:=jY hb3;clear hb2 hb3 c1;go_wp2_with fail
  go_quiet (fail)
  go_wp2;go_ret;refine ⟨?_,HB3.out.trans ((Zk _ _).mono HB3.out.size)⟩;rw [HV.out];rfl
theorem y5j:(Tryz.prog.info? 292).map (·.size)=some 3:=by kernel_rfl
theorem y5i(F:List Nd)(a:Nat)(W:World):(Instr.index 294 (.agg (Ys F a)) (.int .i64 0)).run Tryz.prog W=.ok (.agg (U7 F 0 (Zn F 0 a))) W:=by
 have he:(Ys F a).extract 0 3=U7 F 0 (Zn F 0 a):=by
  apply Array.ext_getElem?
  intro i;rw [Array.getElem?_extract]
  by_cases hi:i<3
  ·have:=Id F a 0 i (by decide) hi
   simp at this;simp [hi,this,X6]
  ·rw [if_neg (by simp [X6];omega),Array.getElem?_eq_none (by simp [U7];omega)]
 have h69:∀ w,(isAgg 292).run Tryz.prog w=.ok true w:=fun w=>by
  unfold isAgg;rw [Sem.run_bind,run_underlying (show Tryz.prog.underlying 292=some _ from Tryz.underlying292) w];rfl
 cases hq:Tryz.prog.info? 292 with
 | none=>have:=y5j;simp [hq] at this
 | some i =>
   have hs:i.size=3:=by have:=y5j;simpa [hq] using this
   unfold Instr.index;simp [asIntOf,Sem.run_bind,run_underlying Bq,part,h69,sizeOf,typeInfo,hq,hs,he]
variable {w:World} {F:List Nd} {ah:Nat->Value} {n:Int}
theorem Bf(hw:Sk w F (lk0 F) ah n)(i:Nat)(hi:i<F.length):0<lev F i:=by
 rw [X8 (lAa hi)];exact (hw.lev i _ (lAa hi)).1
theorem Fd(hp:∀ i,i<F.length->0<lev F i)(q:Nat)(hq:q<F.length):nxt F 0 q=q+1 :=
 Xt hq (by omega) (by omega) (fun i h1 h2=>by omega) (fun h=>hp _ h)
theorem z9i(p:Nat)(L:List Nd)(hF:F=hd p :: L)(hw:Sk w F (lk0 F) ah n)(hN:F.length<=1000000)(m:ByteArray)(s:Int)(a:Nat)(ha:a<F.length)(hq:∀ q x,0<q->F[q]?=some x->Yc x.m x.s m s=decide (q<=a)) :
 Calls Tryz.prog 301 #[.pointer (some ⟨p,0,none⟩),.agg #[.string m,.int .i64 s]] w fun e w'=>e=.returned (.tuple #[.int .i64 a,.bool (Qq F (a+1) m s)])/\Bl w w':=by
 have hp:=Bf hw;have hla:=Qe F hp a ha;have hnx:=Fd hp a ha;have hix:=y5i F a;rw [hla] at hix;have hb1:Bl w (w.alloc (.cells #[.string m,.int .i64 s] 94)):=(Below.refl _ _).alloc (lAd _) _;have kE:Blk (w.alloc (.cells #[.string m,.int .i64 s] 94)) w.heap.size 94 #[.string m,.int .i64 s]:=Blk.new _ _ _;have HT:=jY (Cs p L hF (hw.later hb1) hN m s a ha hq);obtain ⟨x,hx⟩:∃ x,F[a]?=some x:=⟨_,lAa ha⟩;have hax:=Yk hx;have HLD:=fun (W:World) (hb:Bl w W)=>jY (z2a (hw.later hb) 0 a (by decide) ha (hp a ha) m s);rw [hnx] at HLD;unfold U7 at hix;have h00:((0:Nat):Int)=0:=rfl;simp only [hax,h00] at HLD hix;clear h00;have HB1:=jY hb1;have HE:=jY kE;generalize Ys F a=WA at *;generalize Qq F (a+1) m s=bb at *;have hN2:(a:Int)<=1000000:=by omega
 clear hb1 kE hw hF hq hp hla hnx hx hax ha hN
 go_enter Tryz.func301,Tryz.ntmps301
 go_wp2_with fail;refine HT.out.mono ?_;rintro e w2 ⟨rfl,hb2⟩;have e0:=(Za (HE.out.later hb2)).1;have e1:=(Za (HE.out.later hb2)).2.1;have hb3:=HB1.out.trans (hb2.mono HB1.out.size);have hlt:=(HE.out.later hb2).lt;have kS:=Blk.new w2 292 #[.pointer (some ⟨x.b,0,none⟩),.int .i64 ((a:Int)-1),.int .i64 0];have hb4:Bl w2 (w2.alloc (.cells #[.pointer (some ⟨x.b,0,none⟩),.int .i64 ((a:Int)-1),.int .i64 0] 292)):=(Below.refl _ _).alloc (lAd _) _;have kE2:=(HE.out.later hb2).later hb4;have hbw:=hb3.trans (hb4.mono hb3.size);have HBW:=jY hbw;obtain ⟨w3,hw3⟩:∃ w3,w3=w2.alloc (.cells #[.pointer (some ⟨x.b,0,none⟩),.int .i64 ((a:Int)-1),.int .i64 0] 292):=⟨_,rfl⟩;have HW3:=jY hw3;rw [<- hw3] at kS kE2 HBW;have q0:=fun y:Ext w3=>y.cell (Uu kS).1;have q1:=fun y:Ext w3=>y.cell (Uu kS).2.1;have q2:=fun y:Ext w3=>y.cell (Uu kS).2.2.1;have q3:=fun y:Ext w3=>y.cell (Za kE2).1;have q4:=fun y:Ext w3=>y.cell (Za kE2).2.1;have HLD3:=fun y:Ext w3=>HLD y.w (HBW.out.trans (y.ok.mono HBW.out.size));have hne:=Ext.one w3;clear hb2 hb3 hb4 hbw hw3 kS kE2 HLD;go_wp2_with fail;rw [<- HW3.out];refine Zd (w1:=w3) (by kernel_rfl) (by kernel_rfl) (Below.refl _ _) ?_
 iterate 8 go_big_quiet_step ((go_at_call 184;exact Ext.call _ (HLD3 _).out))
 refine wpQuiet_nil ?_;rintro _ ⟨y,rfl⟩;go_wp2_with fail;go_returns;exact ⟨rfl,HBW.out.trans (y.ok.mono HBW.out.size)⟩
structure Links (F:List Nd) (a wb k0 N:Nat) (G:Nat) (caps:Array Value) (Inv:Nat->World->Prop):Prop where
 enter:∀ args w,(callFunc G args).run Tryz.prog w=.ok (.enter G args) w
 stable:∀ k W W',Inv k W->Bl W W'->Inv k W'
 way:∀ k W,Inv k W->Blk W wb 294 (Ys F a)
 call:∀ k W x,k0<=k->k<k0+N->Inv k W->F[Zn F k a]?=some x->Calls Tryz.prog G (#[.agg #[.pointer (some ⟨x.b,0,none⟩),.int .i64 ((Zn F k a:Int)-1),.int .i64 k]]++caps) W fun e w' =>
  ∃ nv ps u1 u2,e=.returned (.agg #[.pointer nv,.int .i64 ps])/\w'.cell? ⟨x.b,3+k*2,none⟩=some u1/\w'.cell? ⟨x.b,3+k*2+1,none⟩=some u2/\w'.frozen? ⟨x.b,3+k*2,none⟩=false/\w'.frozen? ⟨x.b,3+k*2+1,none⟩=false /\
   Inv (k+1) ((w'.setCell ⟨x.b,3+k*2,none⟩ (.pointer nv)).setCell ⟨x.b,3+k*2+1,none⟩ (.int .i64 ps))/\W.heap.size<=w'.heap.size
theorem Gf{F:List Nd}{a wb k0 N:Nat}{G:Nat}{caps:Array Value}{Inv:Nat->World->Prop}(h:Links F a wb k0 N G caps Inv)(hF:∀ k,k<32->Zn F k a<F.length)(hk:k0+N<=32)(cap:Nat)(w:World)(h0:Inv k0 w) :
 Calls Tryz.prog 211 #[.func (.func G) #[] caps,.slice (some ⟨wb,k0*3,none⟩) N cap] w fun e w'=>e=.returned (.tuple #[])/\Inv (k0+N) w':=by
 have HH:=jY h;have HFL:=jY hF;have henter:=h.enter;have HLK:=fun b q k hk w=>jY (Ox b q k hk w);have H0:=jY h0;clear h hF h0;have hN32:(N:Int)<=32:=by omega
 go_enter Tryz.func211,Tryz.ntmps211
 go_wp2
 go_loopw [8] (fun i wr=>∃ (k:Nat),i=.int .i64 k/\k<=N/\Inv (k0+k) wr) (fun i _=>N-(intOf i).toNat)
 case atStart=>exact ⟨0,rfl,by omega,H0.out⟩
 case round =>
  obtain ⟨k,rfl,hkN,hI⟩:=hrel
  by_cases hlt:k<N
  ·have hwy:=HH.out.way _ _ hI;obtain ⟨c0,c1,c2⟩:=Pf F a (k0+k) (by omega);have e0:=(hwy.cell _).trans c0;have e1:=(hwy.cell _).trans c1;have e2:=(hwy.cell _).trans c2;obtain ⟨x,hx⟩:∃ x,F[Zn F (k0+k) a]?=some x:=⟨_,lAa (HFL.out _ (by omega))⟩;rw [Yk hx] at e0;rw [show (k0+k)*3=k0*3+k*3 by omega] at e0 e1 e2;have HI:=jY hI;have HX:=jY hx;clear hI hx c0 c1 c2 hwy;have HL2:=fun w=>HLK x.b ((Zn F (k0+k) a:Int)-1) (k0+k) (by omega) w;have HC:=fun (W:World) (hb:Bl wr W)=>jY (HH.out.call (k0+k) W x (by omega) (by omega) (HH.out.stable _ _ _ HI.out hb) HX.out);rw [Int.natCast_add] at HL2 HC;have kb:=Blk.new wr 292 #[.pointer (some ⟨x.b,0,none⟩),.int .i64 ((Zn F (k0+k) a:Int)-1),.int .i64 ((k0:Int)+k)];have hbw:Bl wr (wr.alloc (.cells #[.pointer (some ⟨x.b,0,none⟩),.int .i64 ((Zn F (k0+k) a:Int)-1),.int .i64 ((k0:Int)+k)] 292)):=(Below.refl _ _).alloc (lAd _) _;have KB:=jY kb;have HBW:=jY hbw;clear kb hbw HLK;go_wp2_with fail
   go_region_with ((first
    | (go_at_call 208
       refine (HL2 _).out.mono ?_;rintro e w2 ⟨rfl,hb2⟩;have hb3:=HBW.out.trans (((Zk _ 1).trans hb2).mono HBW.out.size);have HCC:=HC w2 hb3;obtain ⟨f0,f1,f2,f3,f4,f5⟩:=Uu (KB.out.later ((Zk _ 1).trans hb2))
       clear hb2)
    | (refine HCC.out.mono ?_
       rintro e w5 ⟨nv,ps,u1,u2,rfl,c1,c2,d1,d2,hI2,hz⟩;have HI2:=jY hI2
       clear hI2)))
   all_goals (
    go_wp2
    exact ⟨⟨k+1,by go_num,hlt,HI2.out⟩,by simp [intOf];omega⟩)
  ·obtain rfl:k=N:=by omega
   go_wp2;go_returns;exact ⟨rfl,hI⟩
end Go.Proofs.YtcklcmafohlflaaGreatDoor.Sk

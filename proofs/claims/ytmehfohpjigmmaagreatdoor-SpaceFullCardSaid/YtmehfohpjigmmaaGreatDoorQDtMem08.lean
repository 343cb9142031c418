/- Texts of one kind in one: DtMem, DtPut, DtRep, DtGrow, DtMove, DtStep, DtSlots. -/
import Derived.Test.YtmehfohpjigmmaaGreatDoorQDcLike07
set_option maxRecDepth 200000
set_option maxHeartbeats 8000000
namespace Go.Proofs.YtmehfohpjigmmaaGreatDoor.Dc.Dt
open Zc
open Go.RowKit Go.Shelf
attribute [local go_sem] Oper.semAt_some
def tyP:Ty:=⟨104,142,147,fun v=>∃ a,v=.pointer a⟩
theorem z2o{v:Value}(h:tyP.ok v):v.oneCell'=true:=by obtain ⟨n,rfl⟩:=h;rfl
theorem Kw:(Tryz.prog.info? 147).map (fun i=>(i.zero,i.size,i.bytes))=some (some (.agg #[.int .u32 0,.string ⟨#[]⟩,.pointer none]),3,32):=by kernel_rfl
theorem J9{W W6:World}{vj:Value}{rj:List Nd}(hown:RowAt tyP W vj rj)(hb:Bl W W6)(x:Nd)(hx:tyP.ok x.v)(hl:rj.length<=1000000) :
 ∃ gg cap' W7,(Builtin.append_ #[142,142] 142 #[vj,.slice (some ⟨W6.heap.size,0,none⟩) 1 1]).run Tryz.prog (W6.alloc (.cells x.cells.toArray 147))=.ok (.slice (some ⟨gg,0,none⟩) (rj.length+1) cap') W7 /\
  RowAt tyP W7 (.slice (some ⟨gg,0,none⟩) (rj.length+1) cap') (rj++[x])/\(W6.alloc (.cells x.cells.toArray 147)).grownBy W7 vj.ownBlock/\(vj.ownBlock=some gg\/gg=W6.heap.size+1):=by
 obtain ⟨i0,hi0,hz0,hz1,hz2⟩:=info_parts Kw;have hk:RowAt tyP (W6.alloc (.cells x.cells.toArray 147)) vj rj:=(hown.far (S:=fun _=>False) (Far.of_below hb) fun _ _ h=>h).far (S:=fun _=>False) (Far.of_below ((Below.refl _ _).alloc (Nat.le_refl _) _)) fun _ _ h=>h
 obtain ⟨v',w',hrun,r1,r2,r3,r4⟩:=run_append_own_at (P:=Tryz.prog) (W6.alloc (.cells x.cells.toArray 147)) 0 142 142 147 i0 _ 3 32 Tryz.underlying142 hi0 hz0 hz1 hz2 rfl (by decide) vj _ _ hk ⟨W6.heap.size,0,none⟩ 1 1 x.cells rfl
  (World.news_of_block (cs:=x.cells.toArray) (t:=147) (fr:=(0,0)) (heap_alloc_new _ _)) (fun u hu=>Jf (r:=[x]) (fun y hy=>by simp at hy;subst hy;exact z2o hx) u (by simpa [Yz] using hu)) (by unfold maxLen;omega) (by omega) (Nat.zero_le _)
 have r1':RowAt tyP w' v' (rj++[x]):=by
  unfold RowAt;rw [V8,List.length_append]
  simpa [Yz,tyP] using r1
 rcases r1.2 with ⟨rfl,h0⟩|⟨gg,cap',cur,rfl,_⟩
 ·omega
 ·refine ⟨gg,cap',w',hrun,r1',r2,?_⟩;rcases r4 with h|h
  ·exact .inl h.symm
  ·right;simp [Value.ownBlock] at h;omega
def PutI(w:World)(g:Nat)(vs:List Value)(rows:List (List Nd))(xs:List Nd)(k:Nat)(wr:World):Prop :=
 ∃ vs',TabAt tyP wr g vs' (Yi rows (xs.take k))/\Sep vs'/\(∀ u∈vs',∀ k,u.ownBlock=some k->(∃ u0∈vs,u0.ownBlock=some k)\/w.heap.size<=k)/\Far (Xa g vs) w wr
theorem PutI.step{w:World}{g:Nat}{vs:List Value}{rows:List (List Nd)}{xs:List Nd}{k:Nat}{wr w1 W6 W7:World}{vs':List Value}
 (hT:TabAt tyP wr g vs' (Yi rows (xs.take k))) (hS:Sep vs') (hI:∀ u∈vs',∀ k,u.ownBlock=some k->(∃ u0∈vs,u0.ownBlock=some k)\/w.heap.size<=k) (hF:Far (Xa g vs) w wr)
 (hb1:Bl wr w1) (hb6:Bl w1 W6) {x:Nd} (hx:xs[k]?=some x) {vj:Value} (hvj:vs'[x.sum % rows.length]?=some vj) {o:Obj} {gg cap':Nat}
 (r1:RowAt tyP W7 (.slice (some ⟨gg,0,none⟩) (((Yi rows (xs.take k)).getD (x.sum % rows.length) []).length+1) cap') ((Yi rows (xs.take k)).getD (x.sum % rows.length) []++[x]))
 (r2:(W6.alloc o).grownBy W7 vj.ownBlock) (r3:vj.ownBlock=some gg\/gg=W6.heap.size+1) :
 PutI w g vs rows xs (k+1) (W7.setCell ⟨g,x.sum % rows.length,none⟩ (.slice (some ⟨gg,0,none⟩) (((Yi rows (xs.take k)).getD (x.sum % rows.length) []).length+1) cap')):=by
 obtain ⟨rj,hrj,hRj⟩:=hT.rows hvj;have hpl:=Y3 (xs.take k) rows;have hsz1:=hb1.size;have hsz6:=hb6.size;have hsz7:=r2.size;have hval:W6.heap.size+1<=W7.heap.size:=by simpa using hsz7
 have hin:∀ {b},vj.ownBlock=some b->Xa g vs' b:=fun h=>.inr ⟨vj,List.mem_of_getElem? hvj,h⟩
 -- all that the append may change
 have f7:Far (fun b=>vj.ownBlock=some b) wr W7:=by
  refine Far.trans (S1:=fun b=>vj.ownBlock=some b) (((Far.of_below hb1).then_below hb6).then_below (((Below.refl _ _).alloc (Nat.le_refl _) o))) (Far.of_grown r2 fun k e=>.inl e) (fun b hb=>.inl hb)
 have hjl:x.sum % rows.length<vs'.length:=(List.getElem?_eq_some_iff.1 hvj).1
 have hne:∀ b,vj.ownBlock=some b->b≠g:=fun b hb e=>by
  subst e;obtain ⟨c,hc⟩:=hRj.blk hb;exact absurd (hc.ty hT.blk) (by decide)
 have hbg:Blk W7 g 142 vs'.toArray:=f7.blk hT.blk (fun h=>hne g h rfl)
 have hgg:gg≠g:=by
  rcases r3 with h|h
  ·exact hne gg h
  ·have:=hT.blk.lt;omega
 refine ⟨vs'.set (x.sum % rows.length) (.slice (some ⟨gg,0,none⟩) (((Yi rows (xs.take k)).getD (x.sum % rows.length) []).length+1) cap'),⟨?_,?_,?_⟩,?_,?_,?_⟩
 ·have:=hbg.set (x.sum % rows.length) (.slice (some ⟨gg,0,none⟩) (((Yi rows (xs.take k)).getD (x.sum % rows.length) []).length+1) cap')
  rwa [List.setIfInBounds_toArray] at this
 ·rw [List.length_set,Pa rows xs k x hx,Y7,hT.len]
 ·intro i v r hv hr;rw [Pa rows xs k x hx] at hr;unfold X4 at hr;rw [hpl] at hr
  by_cases e:i=x.sum % rows.length
  ·subst e;rw [List.getElem?_set_self hjl] at hv;rw [List.getElem?_set_self (by rw [<- hT.len];exact hjl)] at hr
   cases hv;cases hr
   refine r1.far (S:=fun b=>b=g) ((Far.refl _ _).set _ _ (.inl rfl)) ?_;intro b hb e;simp [Value.ownBlock] at hb;omega
  ·rw [List.getElem?_set_ne (fun h=>e h.symm)] at hv hr;have h0:=hT.row i v r hv hr;have h7:RowAt tyP W7 v r:=h0.far f7 fun b hb h=>e (hS i _ v vj b hv hvj hb h);refine h7.far (S:=fun b=>b=g) ((Far.refl _ _).set _ _ (.inl rfl)) ?_;intro b hb e2;subst e2;obtain ⟨c,hc⟩:=h0.blk hb;exact absurd (hc.ty hT.blk) (by decide)
 ·refine hS.set hvj fun b hb=>?_;simp [Value.ownBlock] at hb;subst hb;rcases r3 with h|h
  ·exact .inl h
  ·right
   intro u hu hu2;obtain ⟨r,hr⟩:=hT.mem hu
   have:=hr.lt hu2
   omega
 ·intro u hu b hb;rcases List.mem_or_eq_of_mem_set hu with h|rfl
  ·exact hI u h b hb
  ·simp [Value.ownBlock] at hb;subst hb;rcases r3 with h|h
   ·exact hI vj (List.mem_of_getElem? hvj) _ h
   ·right;have:=hF.size;omega
 ·refine Far.set (hF.trans f7 fun b hb=>?_) _ _ (.inl (.inl rfl));rcases hI vj (List.mem_of_getElem? hvj) b hb with ⟨u0,h1,h2⟩|h
  ·exact .inl (.inr ⟨u0,h1,h2⟩)
  ·exact .inr h
theorem Us(g:Nat)(vs:List Value)(rows:List (List Nd))(v:Value)(xs:List Nd)(w:World)(hT:TabAt tyP w g vs rows)(hS:Sep vs)(hz:isS (rows.length:Int)=true)
 (hr:RowAt tyP w v xs) (hv:∀ u∈vs,∀ k,u.ownBlock=some k->v.ownBlock≠some k) (hf:∀ x∈xs,x.fine tyP) (hn:rows.flatten.length+xs.length<=1000000) :
 Calls Tryz.prog 78 #[.slice (some ⟨g,0,none⟩) rows.length rows.length,v] w fun e w'=>e=.returned (.tuple #[])/\PutI w g vs rows xs xs.length w':=by
 have hvg:∀ k,v.ownBlock=some k->¬ Xa g vs k:=fun k hk h=>by
  rcases h with rfl|⟨u,hu,hu2⟩
  ·obtain ⟨c,hc⟩:=hr.blk hk
   have:=hc.ty hT.blk
   exact absurd this (by decide)
  ·exact hv u hu k hu2 hk
 have hn1:=Zm hz;have H0:PutI w g vs rows xs 0 w:=⟨vs,hT,hS,fun u hu k hk=>.inl ⟨u,hu,hk⟩,Far.refl _ _⟩;have hfar:∀ k wr,PutI w g vs rows xs k wr->RowAt tyP wr v xs:=fun k wr ⟨_,_,_,_,f⟩=>hr.far f hvg;have HFAR:=jY hfar;clear hfar;obtain ⟨A,cap,rfl,hcap,hmax,hat⟩:=hr.form;clear hat;have hn2:(xs.length:Int)<=1000000:=by omega
 have hn3:(4:Int)<=rows.length:=by omega
 have HI:=fun (s:Nat) hs w=>jY (Vs s hs rows.length w);unfold Pp at HI;simp only [hz,if_true] at HI;have HF:=jY hf;clear hf hz hS hT hr hv hvg
 go_enter Tryz.func78,Tryz.ntmps78
 go_wp2
 go_loopw [10] (fun i wr=>∃ (k:Nat),i=.int .i64 k/\k<=xs.length/\PutI w g vs rows xs k wr) (fun i _=>xs.length-(intOf i).toNat)
 case atStart=>exact ⟨0,rfl,by omega,H0⟩
 case round =>
  obtain ⟨k,rfl,hk,hP⟩:=hrel
  by_cases hlt:k<xs.length
  ·have hx:xs[k]?=some xs[k]:=List.getElem?_eq_getElem hlt;obtain ⟨A',cap',he,_,_,hat⟩:=(HFAR.out _ _ hP).form;obtain ⟨gv,hA,hob,c0,c1,c2,fz⟩:=hat k _ hx
   cases he
   subst hA;generalize xs[k]=x at *;obtain ⟨hx1,hx2⟩:=HF.out x (List.mem_of_getElem? hx);obtain ⟨sum,key,vv⟩:=x;obtain ⟨nv,hnv⟩:=hx2;simp only at hnv hx1 c0 c1 c2;subst hnv;obtain ⟨vs',hT,hS,hI,hF⟩:=hP;have hpl:=Y3 (xs.take k) rows;have hj:sum % rows.length<rows.length:=Nat.mod_lt _ (by omega);have hvl:vs'.length=rows.length:=hT.len.trans hpl;obtain ⟨vj,hvj⟩:∃ vj,vs'[sum % rows.length]?=some vj:=⟨_,List.getElem?_eq_getElem (by omega)⟩;obtain ⟨rj,hrj,hRj⟩:=hT.rows hvj
   have hrl:rj.length<=1000000:=by
    have h1:=Jw _ rj (List.mem_of_getElem? hrj);have h2:=O5 (xs.take k) rows (by omega);have h3:(xs.take k).length<=xs.length:=by rw [List.length_take];omega
    omega
   have hgd:(Yi rows (xs.take k)).getD (sum % rows.length) []=rj:=by rw [List.getD_eq_getElem?_getD,hrj];rfl
   have hcg:∀ W,Bl wr W->W.cell? ⟨g,sum % rows.length,none⟩=some vj/\W.frozen? ⟨g,sum % rows.length,none⟩=false:=fun W hW=>by
    have hB:=hT.blk.later hW;exact ⟨by rw [hB.cell];simpa using hvj,hB.free _⟩
   have hgl:=hT.blk.lt
   have hog:vj.ownBlock≠some g:=fun h=>by
    obtain ⟨c,hc⟩:=hRj.blk h;exact absurd (hc.ty hT.blk) (by decide)
   have HI2:=fun w=>HI sum hx1 w;have hje:(sum:Int) % (rows.length:Int)=((sum % rows.length:Nat):Int):=by omega
   simp only [hje] at HI2;have HSTEP:=fun w1 W6 W7 (b1:Bl wr w1) (b6:Bl w1 W6) o gg cap' r1 r2 r3=>jY (PutI.step (w:=w) (vs:=vs) (rows:=rows) (k:=k) (W7:=W7) hT hS hI hF b1 b6 hx hvj (o:=o) (gg:=gg) (cap':=cap') r1 r2 r3);simp only [hgd] at HSTEP;have hja:=jY hj;generalize sum % rows.length=j at *;have HAPP:=fun W6 (b:Bl wr W6)=>jY (J9 hRj b ⟨sum,key,.pointer nv⟩ ⟨nv,rfl⟩ hrl);have hj2:(j:Int)<rows.length:=by omega
   clear hx fz hje hgd hrj hRj hT hS hI hF hvl hpl hvj hj HI HF HFAR H0;go_wp2_with fail;refine (HI2 _).out.mono ?_;rintro e w1 ⟨rfl,hb1⟩;have hbw:Bl wr w1:=((Below.refl _ _).alloc (Nat.le_refl _) _).trans (hb1.mono (by simp));have k5:=(Blk.new wr 147 #[Value.int IntKind.u32 ↑sum,Value.string key,Value.pointer nv]).later (by simpa using hb1);obtain ⟨e0,f0⟩:=hcg _ hbw;obtain ⟨gg,cap7,W7,hrun,r1,r2,r3⟩:=(HAPP _ (hbw.drew)).out;obtain ⟨e6,f6⟩:=hcg _ (hbw.alloc hbw.size (Obj.cells #[Value.int IntKind.u32 ↑sum,Value.string key,Value.pointer nv] 147));have e7:W7.cell? ⟨g,j,none⟩=some vj:=(r2.cell_far ⟨g,j,none⟩ (by have:=hbw.size;simp;omega) (fun h=>hog h.symm)).trans e6;have f7:W7.frozen? ⟨g,j,none⟩=false:=(r2.frozen_far ⟨g,j,none⟩ (by have:=hbw.size;simp;omega) (fun h=>hog h.symm)).trans f6;have d0:=k5.cell 0;have d1:=k5.cell 1;have d2:=k5.cell 2;have z1:=hbw.size;have H1:=jY r1;have H2:=jY r2;have H3:=jY r3;have HB:=jY hbw;clear r1 r2 r3 hbw hb1 k5;unfold Nd.cells at hrun H2;go_wp2
   go_region_law (refine Vf rfl _ _ 142 142 (by rfl) (by rfl) (by rfl) hrun ?_)
   all_goals (
    go_wp2;refine ⟨⟨k+1,by go_num,hlt,?_⟩,by simp [intOf];omega⟩
    exact (HSTEP w1 w1.drew W7 HB.out ((Below.refl _ _).drew) _ gg cap7 H1.out H2.out H3.out).out)
  ·obtain rfl:k=xs.length:=by omega
   go_wp2;go_returns;exact ⟨rfl,hP⟩
variable {S:Nat->Prop} {p seed:Nat} {D:Dc} {w:World}
theorem X2(h:Rep tyP w p S seed D):Calls Tryz.prog 108 #[.pointer (some ⟨p,0,none⟩)] w fun e w'=>e=.returned (.bool D.moving)/\w'=w:=by
 obtain ⟨g0,g1,A1,va,vb,hm,hf,hc⟩:=h;obtain ⟨c0,c1,c2,c3,c4,f0,f1,f3,f4⟩:=Zk hm;unfold Dc.moving
 go_enter Tryz.func108,Tryz.ntmps108
 go_wp2;go_ret;exact ⟨by simp,rfl⟩
theorem Ov(h:Rep tyP w p S seed D):Calls Tryz.prog 30 #[.pointer (some ⟨p,0,none⟩)] w fun e w'=>e=.returned (.int .i64 D.n)/\w'=w:=by
 obtain ⟨g0,g1,A1,va,vb,hm,hf,hc⟩:=h;obtain ⟨c0,c1,c2,c3,c4,f0,f1,f3,f4⟩:=Zk hm
 go_enter Tryz.func30,Tryz.ntmps30
 go_wp2;go_ret;exact ⟨rfl,rfl⟩
theorem z8x(h:Rep tyP w p S seed D):Calls Tryz.prog 47 #[.pointer (some ⟨p,0,none⟩)] w fun e w'=>e=.returned (.tuple #[.int .i64 D.a.length,.int .i64 D.b.length,.int .i64 D.place])/\Bl w w':=by
 obtain ⟨g0,g1,A1,va,vb,hm,hf,hc⟩:=h;obtain ⟨c0,c1,c2,c3,c4,f0,f1,f3,f4⟩:=Zk hm
 go_enter Tryz.func47,Tryz.ntmps47
 go_wp2
 go_quiet (fail)
 go_wp2;go_returns;exact ⟨rfl,by first|exact (Below.refl _ _).drew|exact ⟨rfl,rfl,rfl,Nat.le_refl _,fun _ _=>rfl⟩⟩
theorem O2{g0 g1:Nat}{A1:Option Addr}{va vb:List Value}(h:Mem tyP w p g0 g1 A1 va vb seed D)(hf:Foot S p g0 g1 va vb D)(hc:∀ k,S k->CellB tyP w k) :
 Calls Tryz.prog 77 #[.pointer (some ⟨p,0,none⟩)] w fun e w'=>e=.returned (bif D.moving then .slice A1 D.b.length D.b.length else .slice (some ⟨g0,0,none⟩) D.a.length D.a.length)/\w'=w:=by
 have hm:=X2 (w:=w) ⟨g0,g1,A1,va,vb,h,hf,hc⟩;obtain ⟨c0,c1,c2,c3,c4,f0,f1,f3,f4⟩:=Zk h
 cases hmv:D.moving with
 | false =>
   rw [hmv] at hm;have HM:=jY hm;clear hm hmv
   go_enter Tryz.func77,Tryz.ntmps77
   go_wp2_with fail;refine HM.out.mono ?_;rintro e w' ⟨rfl,rfl⟩;go_wp2;go_ret;exact ⟨rfl,rfl⟩
 | true =>
   rw [hmv] at hm;have HM:=jY hm;clear hm hmv
   go_enter Tryz.func77,Tryz.ntmps77
   go_wp2_with fail;refine HM.out.mono ?_;rintro e w' ⟨rfl,rfl⟩;go_wp2;go_ret;exact ⟨rfl,rfl⟩
theorem X6(hsd:seed<4294967296)(h:Rep tyP w p S seed D)(key:ByteArray)(hk:key.size<=281474976710656) :
 Calls Tryz.prog 79 #[.pointer (some ⟨p,0,none⟩),.string key] w fun e w'=>e=.returned (.agg #[.int .u32 (Zi seed key.data.toList),.string key])/\Bl w w':=by
 obtain ⟨g0,g1,A1,va,vb,hm,hf,hc⟩:=h;obtain ⟨c0,c1,c2,c3,c4,f0,f1,f3,f4⟩:=Zk hm;have hpl:=hm.dict.lt;have HS:=fun w=>jY (J5 seed hsd key hk w);generalize Zi seed key.data.toList=sm at *;clear hm hf hc
 go_enter Tryz.func79,Tryz.ntmps79
 go_wp2_with fail;refine (HS _).out.mono ?_;rintro e w1 ⟨rfl,hb1⟩;have hB:=(Blk.new w 145 #[Value.int IntKind.u32 0,Value.string { data:=#[] }]).later hb1;have e0:=hB.cell 0;have e1:=hB.cell 1;have z0:=hB.free 0;have z1:=hB.free 1;have HH:=jY hB;have HL:=jY hb1;clear hB hb1;go_wp2;have g1:=(HH.out.set 0 (.int .u32 sm)).set 1 (.string key);have q0:=g1.cell 0;have q1:=g1.cell 1;refine bodyPost_ret (v:=.agg #[.int .u32 sm,.string key]) ?_ rfl ⟨rfl,?_⟩
 ·simp [results,Tryz.results79,go_sem,q0,q1]
 ·exact (((((Below.refl _ _).alloc (Nat.le_refl _) _)).trans (HL.out.mono (by simp))).setCell (p:=⟨w.heap.size,0,none⟩) (Nat.le_refl _) _).setCell (p:=⟨w.heap.size,1,none⟩) (Nat.le_refl _) _
theorem Oq:(Tryz.prog.info? 142).map (fun i=>(i.zero,i.size,i.bytes))=some (some (.slice none 0 0),1,24):=by kernel_rfl
theorem Qx(h:Rep tyP w p S seed D)(m:Nat)(hb:D.b=[]) :
 Calls Tryz.prog 115 #[.pointer (some ⟨p,0,none⟩),.int .i64 m] w fun e w'=>e=.returned (.tuple #[])/\Went tyP S w p seed (D.begin m) w':=by
 obtain ⟨g0,g1,A1,va,vb,hm,hf,hc⟩:=h;obtain ⟨c0,c1,c2,c3,c4,f0,f1,f3,f4⟩:=Zk hm;have HS:=fun w=>jY (Qq m w);have hpl:=hm.dict.lt;have HM:=jY hm;have hs4:=Zm (Vp m);clear hm;obtain ⟨i0,hi0,hz0,hz1,hz2⟩:=info_parts Oq;have hmk:=fun W=>run_make (P:=Tryz.prog) W 101 142 i0 _ Tryz.underlying101 hi0 hz0 .i64 .i64 (Zg m) (Zg m) (by omega) (Int.le_refl _) (by rw [hz2];omega) (by omega);rw [hz1] at hmk;simp only [Int.toNat_natCast,Nat.mul_one] at hmk;have HCP:∀ W,Bl w W->Hid (W.cell? ⟨p,1,none⟩=some (.slice A1 D.b.length D.b.length)/\W.frozen? ⟨p,1,none⟩=false):=fun W hW=>jY ⟨(HM.out.dict.later hW).cell 1,(HM.out.dict.later hW).free 1⟩
 have HEND:∀ w1,Bl w w1->Hid (Went tyP S w p seed (D.begin m) ((w1.alloc (Obj.cells (madeCells #[Value.slice none 0 0] (Zg m)) 142)).setCell ⟨p,1,none⟩ (Value.slice (some ⟨w1.heap.size,0,none⟩) (Zg m) (Zg m)))):=fun w1 hb1=>jY (by
  have hm1:=HM.out.later hb1;have hz1:=hb1.size
  have hvb:vb=[]:=by
   rcases HM.out.tb with ⟨_,h,_⟩|⟨h,_⟩
   ·exact h
   ·exact absurd hb h
  subst hvb;have hs:=hm1.sep;rw [List.append_nil] at hs;have hd:=((hm1.dict.alloc (Obj.cells (madeCells #[Value.slice none 0 0] (Zg m)) 142)).set 1 (Value.slice (some ⟨w1.heap.size,0,none⟩) (Zg m) (Zg m)))
  have hfr:Far S w ((w1.alloc (Obj.cells (madeCells #[Value.slice none 0 0] (Zg m)) 142)).setCell ⟨p,1,none⟩ (Value.slice (some ⟨w1.heap.size,0,none⟩) (Zg m) (Zg m))) :=
   ((Far.of_below hb1).then_below ((Below.refl _ _).alloc (Nat.le_refl _) _)).set _ _ (.inl hf.p)
  have hnew:Blk ((w1.alloc (Obj.cells (madeCells #[Value.slice none 0 0] (Zg m)) 142)).setCell ⟨p,1,none⟩ (Value.slice (some ⟨w1.heap.size,0,none⟩) (Zg m) (Zg m))) w1.heap.size 142 (madeCells #[Value.slice none 0 0] (Zg m)) :=
   (Blk.new w1 142 _).setOther 1 _ (by omega)
  have hmc:madeCells #[Value.slice none 0 0] (Zg m)=(List.replicate (Zg m) (Value.slice none 0 0)).toArray:=by
   rw [<- toList_madeCells_one]
  refine Went.mk' (g0:=g0) (g1:=w1.heap.size) (A1:=some ⟨w1.heap.size,0,none⟩) (va:=va) (vb:=List.replicate (Zg m) (.slice none 0 0)) ⟨?_,?_,.inr ⟨?_,rfl,?_,⟨?_,?_,?_⟩⟩,?_⟩ hfr (.inl hf.p) (.inl hf.g0) (fun _=>.inr (by omega)) ?_
  ·simpa [Dc.begin] using hd
  ·refine (hm1.ta.later (W':=(w1.alloc (Obj.cells (madeCells #[Value.slice none 0 0] (Zg m)) 142))) ((Below.refl _ _).alloc (Nat.le_refl _) _)).far (S:=fun k=>k=p) ((Far.refl _ _).set _ _ (.inl rfl)) ?_;rintro k (rfl|⟨v,hv,hk⟩) rfl
   ·exact absurd (hm1.ta.blk.ty hm1.dict) (by decide)
   ·obtain ⟨r,hr⟩:=hm1.ta.mem hv;obtain ⟨c,hc⟩:=hr.blk hk;exact absurd (hc.ty hm1.dict) (by decide)
  ·simp [Dc.begin];omega
  ·have:=hm1.ta.blk.lt;omega
  ·rw [<- hmc];exact hnew
  ·simp [Dc.begin]
  ·intro i v r hv hr;obtain ⟨hi,rfl⟩:=List.getElem?_eq_some_iff.1 hv;obtain ⟨hi2,rfl⟩:=List.getElem?_eq_some_iff.1 hr;simp only [List.getElem_replicate,Dc.begin];exact RowAt.nil _ _
  ·refine hs.join (Sep.none fun v hv=>?_) (fun v hv u hu k hk=>?_)
   ·rw [List.eq_of_mem_replicate hv];rfl
   ·rw [List.eq_of_mem_replicate hu];simp [Value.ownBlock]
  ·intro v hv k hk;rcases List.mem_append.1 hv with h|h
   ·exact .inl (hf.row v (List.mem_append_left _ h) k hk)
   ·rw [List.eq_of_mem_replicate h] at hk;simp [Value.ownBlock] at hk)
 generalize Zg m=s at *;clear hf hc hi0 hz0 hz1 hz2
 go_enter Tryz.func115,Tryz.ntmps115
 go_wp2
 go_region_law ((go_simp;go_at_call 135;refine (HS _).out.mono ?_;rintro e w1 ⟨rfl,hb1⟩;obtain ⟨q1,z1⟩:=(HCP _ ((Mr hb1).alloc hb1.size (Obj.cells (madeCells #[Value.slice none 0 0] s) 142))).out))
 all_goals go_wp2
 all_goals go_returns
 all_goals exact ⟨rfl,(HEND w1 (Mr hb1)).out⟩
variable {S:Nat->Prop} {p seed:Nat} {D:Dc} {w:World}
theorem Ji(h:Rep tyP w p S seed D)(hn:D.n<=1000000):Calls Tryz.prog 76 #[.pointer (some ⟨p,0,none⟩)] w fun e w'=>e=.returned (.tuple #[])/\Went tyP S w p seed D.grown w':=by
 have hmv:=X2 h;have hst:=jY (Went.start h);have H:=jY h;obtain ⟨g0,g1,A1,va,vb,hm,hf,hc⟩:=h;obtain ⟨c0,c1,c2,c3,c4,f0,f1,f3,f4⟩:=Zk hm;clear hm hf hc
 cases hb:D.moving with
 | true =>
   have hD:D.grown=D:=by unfold Dc.grown;rw [if_neg];intro h;rw [(Yj D).2 h.1] at hb;cases hb
   rw [hD];rw [hb] at hmv;have HM:=jY hmv;clear hmv hb hD
   go_enter Tryz.func76,Tryz.ntmps76
   go_wp2_with fail;refine HM.out.mono ?_;rintro e w1 ⟨rfl,rfl⟩;go_wp2;go_returns;exact ⟨rfl,hst.out⟩
 | false =>
   have hbn:=(Yj D).1 hb;rw [hb] at hmv;have HM:=jY hmv
   by_cases hc:D.a.length<=D.n/\D.a.length<65536
   ·have hD:D.grown=D.begin (2*D.n):=by unfold Dc.grown;rw [if_pos ⟨hbn,hc.1,hc.2⟩]
    have HB:=jY (Qx H.out (2*D.n) hbn);rw [hD];obtain ⟨h1,h2⟩:=hc;have h1':(D.a.length:Int)<=D.n:=by omega
    have h2':(D.a.length:Int)<65536:=by omega
    have h3:(D.n:Int)<=1000000:=by omega
    have hcast:((2*D.n:Nat):Int)=2*(D.n:Int):=by omega
    rw [hcast] at HB;clear hmv hb hD hbn hcast hst
    go_enter Tryz.func76,Tryz.ntmps76
    go_wp2_with fail;refine HM.out.mono ?_;rintro e w1 ⟨rfl,rfl⟩;go_wp2_with fail;refine HB.out.mono ?_;rintro e w1 ⟨rfl,hw⟩;have HW:=jY hw;clear hw;go_wp2;go_returns;exact ⟨rfl,HW.out⟩
   ·have hD:D.grown=D:=by unfold Dc.grown;rw [if_neg];intro h;exact hc ⟨h.2.1,h.2.2⟩
    rw [hD];clear hmv hb hD hbn
    by_cases h1:D.n<D.a.length
    ·have h1':(D.n:Int)<D.a.length:=by omega
     go_enter Tryz.func76,Tryz.ntmps76
     go_wp2_with fail;refine HM.out.mono ?_;rintro e w1 ⟨rfl,rfl⟩;go_wp2;go_returns;exact ⟨rfl,hst.out⟩
    ·have h1':(D.a.length:Int)<=D.n:=by omega
     have h2':decide ((D.a.length:Int)<65536)=false:=by rw [decide_eq_false_iff_not];omega
     clear hc h1
     go_enter Tryz.func76,Tryz.ntmps76
     go_wp2_with fail;refine HM.out.mono ?_;rintro e w1 ⟨rfl,rfl⟩;go_wp2;go_returns;exact ⟨rfl,hst.out⟩
theorem z1k(h:Rep tyP w p S seed D)(hn:D.n<=1000000):Calls Tryz.prog 73 #[.pointer (some ⟨p,0,none⟩)] w fun e w'=>e=.returned (.tuple #[])/\Went tyP S w p seed D.shrunk w':=by
 have hmv:=X2 h;have hst:=jY (Went.start h);have H:=jY h;obtain ⟨g0,g1,A1,va,vb,hm,hf,hc⟩:=h;obtain ⟨c0,c1,c2,c3,c4,f0,f1,f3,f4⟩:=Zk hm;clear hm hf hc;have h3:(D.n:Int)<=1000000:=by omega
 cases hb:D.moving with
 | true =>
   have hD:D.shrunk=D:=by unfold Dc.shrunk;rw [if_neg];intro h;rw [(Yj D).2 h.1] at hb;cases hb
   rw [hD];rw [hb] at hmv;have HM:=jY hmv;clear hmv hb hD
   go_enter Tryz.func73,Tryz.ntmps73
   go_wp2_with fail;refine HM.out.mono ?_;rintro e w1 ⟨rfl,rfl⟩;go_wp2;go_returns;exact ⟨rfl,hst.out⟩
 | false =>
   have hbn:=(Yj D).1 hb;rw [hb] at hmv;have HM:=jY hmv
   by_cases hc:4<D.a.length/\8*D.n<D.a.length
   ·have hD:D.shrunk=D.begin D.n:=by unfold Dc.shrunk;rw [if_pos ⟨hbn,hc.1,hc.2⟩]
    have HB:=jY (Qx H.out D.n hbn);rw [hD];obtain ⟨h1,h2⟩:=hc;have h1':4<(D.a.length:Int):=by omega
    have h2':8*(D.n:Int)<D.a.length:=by omega
    clear hmv hb hD hbn hst
    go_enter Tryz.func73,Tryz.ntmps73
    go_wp2_with fail;refine HM.out.mono ?_;rintro e w1 ⟨rfl,rfl⟩;go_wp2_with fail;refine HB.out.mono ?_;rintro e w1 ⟨rfl,hw⟩;have HW:=jY hw;clear hw;go_wp2;go_returns;exact ⟨rfl,HW.out⟩
   ·have hD:D.shrunk=D:=by unfold Dc.shrunk;rw [if_neg];intro h;exact hc ⟨h.2.1,h.2.2⟩
    rw [hD];clear hmv hb hD hbn
    by_cases h1:D.a.length<=4
    ·have h1':(D.a.length:Int)<=4:=by omega
     go_enter Tryz.func73,Tryz.ntmps73
     go_wp2_with fail;refine HM.out.mono ?_;rintro e w1 ⟨rfl,rfl⟩;go_wp2;go_returns;exact ⟨rfl,hst.out⟩
    ·have h1':4<(D.a.length:Int):=by omega
     have h2':(D.a.length:Int)<=8*(D.n:Int):=by omega
     clear hc
     go_enter Tryz.func73,Tryz.ntmps73
     go_wp2_with fail;refine HM.out.mono ?_;rintro e w1 ⟨rfl,rfl⟩;go_wp2;go_returns;exact ⟨rfl,hst.out⟩
variable {S:Nat->Prop} {p seed:Nat} {D:Dc} {w:World}
theorem Qc:tyP.Apart:=⟨by decide,by decide,by decide⟩
theorem Jp{g0 g1:Nat}{A1:Option Addr}{va vb:List Value}(hm:Mem tyP w p g0 g1 A1 va vb seed D)(hb:D.b≠[]){w1:World}(hP:PutI w g1 vb D.b (D.a.getD D.place []) (D.a.getD D.place []).length w1) :
 ∃ vb',Mem tyP w1 p g0 g1 A1 va vb' seed { D with b:=Yi D.b (D.a.getD D.place []) }/\(∀ u∈vb',∀ k,u.ownBlock=some k->(∃ u0∈vb,u0.ownBlock=some k)\/w.heap.size<=k)/\Far (Xa g1 vb) w w1:=by
 obtain ⟨vb',hT,hS,hI,hF⟩:=hP;rw [List.take_length] at hT;rcases hm.tb with ⟨h,_⟩|⟨_,hA,hg,htb⟩
 ·exact absurd h hb
 have hsa:=fun v (hv:v∈va) u (hu:u∈vb) k hk=>Sep.apart hm.sep hv hu (k:=k) hk;have hta:=hm.ta.beside Qc htb (fun e=>hg e.symm) hsa hF;refine ⟨vb',⟨?_,hta,.inr ⟨?_,hA,hg,hT⟩,hm.sep.left.join hS fun v hv u hu k hk h2=>?_⟩,hI,hF⟩
 ·have:=hF.blk hm.dict (fun h=>by
   rcases h with h|⟨u,hu,h⟩
   ·subst h;exact absurd (hm.dict.ty htb.blk) (by decide)
   ·obtain ⟨r,hr⟩:=htb.mem hu;obtain ⟨c,hc⟩:=hr.blk h
    exact absurd (hm.dict.ty hc) (by decide))
  simpa [Y3] using this
 ·intro e
  have:=congrArg List.length e
  rw [Y3] at this;exact hb (List.eq_nil_of_length_eq_zero (by simpa using this))
 ·rcases hI u hu k h2 with ⟨u0,h3,h4⟩|h3
  ·exact Sep.apart hm.sep hv h3 hk h4
  ·obtain ⟨r,hr⟩:=hm.ta.mem hv
   have:=hr.lt hk
   omega
theorem Fw{g0 g1:Nat}{A1:Option Addr}{va vb vb':List Value}(hf:Foot S p g0 g1 va vb D)(hb:D.b≠[]){w1:World}(hm1:Mem tyP w1 p g0 g1 A1 va vb' seed { D with b:=Yi D.b (D.a.getD D.place []) })
 (hI:∀ u∈vb',∀ k,u.ownBlock=some k->(∃ u0∈vb,u0.ownBlock=some k)\/w.heap.size<=k) (hF:Far (Xa g1 vb) w w1) (hl:D.place+1≠D.a.length) :
 Went tyP S w p seed D.move1 ((w1.setCell ⟨g0,D.place,none⟩ (.slice none 0 0)).setCell ⟨p,3,none⟩ (.int .i64 (D.place+1:Nat))):=by
 have hd:D.move1=⟨D.a.set D.place [],Yi D.b (D.a.getD D.place []),D.place+1,D.n⟩:=by unfold Dc.move1;rw [if_neg hl]
 rw [hd];rcases hm1.tb with ⟨h,_⟩|⟨hb1,hA,hg,htb⟩
 ·exact absurd (by have:=congrArg List.length h;simp only [Y3] at this;exact List.eq_nil_of_length_eq_zero (by simpa using this)) hb
 have hgp:p≠g0:=fun e=>by have h1:=hm1.dict;rw [e] at h1;exact absurd (h1.ty hm1.ta.blk) (by decide)
 have hbl:=hm1.dict.setOther D.place (.slice none 0 0) hgp;have f1:Far (fun k=>k=g0) w1 (w1.setCell ⟨g0,D.place,none⟩ (.slice none 0 0)):=(Far.refl _ _).set _ _ (.inl rfl);have f2:Far (fun k=>k=p) (w1.setCell ⟨g0,D.place,none⟩ (.slice none 0 0)) ((w1.setCell ⟨g0,D.place,none⟩ (.slice none 0 0)).setCell ⟨p,3,none⟩ (.int .i64 (D.place+1:Nat))):=(Far.refl _ _).set _ _ (.inl rfl);refine Went.mk' (g0:=g0) (g1:=g1) (A1:=A1) (va:=va.set D.place (.slice none 0 0)) (vb:=vb') ⟨?_,?_,.inr ⟨hb1,hA,hg,?_⟩,?_⟩ ?_ (.inl hf.p) (.inl hf.g0) (fun _=>.inl (hf.g1 hb)) ?_
 ·have:=hbl.set 3 (.int .i64 (D.place+1:Nat))
  simpa using this
 ·exact (hm1.ta.emptied Qc D.place).past Qc f2 hbl
 ·refine TabAt.past Qc ?_ f2 hbl;refine htb.far f1 ?_;rintro k (rfl|⟨v,hv,hk⟩) rfl
  ·exact hg rfl
  ·obtain ⟨r,hr⟩:=htb.mem hv;obtain ⟨c,hc⟩:=hr.blk hk;exact absurd (hm1.ta.blk.ty hc) (by decide)
 ·have hs:=hm1.sep;refine Sep.join ?_ hs.right fun v hv u hu k hk=>?_
  ·by_cases hi:D.place<va.length
   ·exact hs.left.set (List.getElem?_eq_getElem hi) fun k hk=>by simp [Value.ownBlock] at hk
   ·rw [List.set_eq_of_length_le (by omega)];exact hs.left
  ·rcases List.mem_or_eq_of_mem_set hv with h|rfl
   ·exact Sep.apart hs h hu hk
   ·simp [Value.ownBlock] at hk
 ·refine ((hF.mono (S1:=S) ?_).set _ _ (.inl hf.g0)).set _ _ (.inl hf.p);rintro k (rfl|⟨u,hu,hk⟩)
  ·exact hf.g1 hb
  ·exact hf.row u (List.mem_append_right _ hu) k hk
 ·intro v hv k hk;rcases List.mem_append.1 hv with h|h
  ·rcases List.mem_or_eq_of_mem_set h with h|rfl
   ·exact .inl (hf.row v (List.mem_append_left _ h) k hk)
   ·simp [Value.ownBlock] at hk
  ·rcases hI v h k hk with ⟨u0,h1,h2⟩|h1
   ·exact .inl (hf.row u0 (List.mem_append_right _ h1) k h2)
   ·exact .inr h1
theorem Mp{g0 g1:Nat}{A1:Option Addr}{va vb vb':List Value}(hf:Foot S p g0 g1 va vb D)(hb:D.b≠[]){w1:World}(hm1:Mem tyP w1 p g0 g1 A1 va vb' seed { D with b:=Yi D.b (D.a.getD D.place []) })
 (hI:∀ u∈vb',∀ k,u.ownBlock=some k->(∃ u0∈vb,u0.ownBlock=some k)\/w.heap.size<=k) (hF:Far (Xa g1 vb) w w1) (hl:D.place+1=D.a.length) :
 Went tyP S w p seed D.move1 (((((w1.setCell ⟨g0,D.place,none⟩ (.slice none 0 0)).setCell ⟨p,3,none⟩ (.int .i64 (D.place+1:Nat))).setCell ⟨p,0,none⟩ (.slice A1 D.b.length D.b.length)).setCell ⟨p,1,none⟩ (.slice none 0 0)).setCell ⟨p,3,none⟩ (.int .i64 0)):=by
 have hd:D.move1=⟨Yi D.b (D.a.getD D.place []),[],0,D.n⟩:=by unfold Dc.move1;rw [if_pos hl]
 rw [hd];rcases hm1.tb with ⟨h,_⟩|⟨hb1,hA,hg,htb⟩
 ·exact absurd (by have:=congrArg List.length h;simp only [Y3] at this;exact List.eq_nil_of_length_eq_zero (by simpa using this)) hb
 have hgp:p≠g0:=fun e=>by have h1:=hm1.dict;rw [e] at h1;exact absurd (h1.ty hm1.ta.blk) (by decide)
 have hbl:=hm1.dict.setOther D.place (.slice none 0 0) hgp;have f1:Far (fun k=>k=g0) w1 (w1.setCell ⟨g0,D.place,none⟩ (.slice none 0 0)):=(Far.refl _ _).set _ _ (.inl rfl)
 have f2:Far (fun k=>k=p) (w1.setCell ⟨g0,D.place,none⟩ (.slice none 0 0)) (((((w1.setCell ⟨g0,D.place,none⟩ (.slice none 0 0)).setCell ⟨p,3,none⟩ (.int .i64 (D.place+1:Nat))).setCell ⟨p,0,none⟩ (.slice A1 D.b.length D.b.length)).setCell ⟨p,1,none⟩ (.slice none 0 0)).setCell ⟨p,3,none⟩ (.int .i64 0)) :=
  ((((Far.refl (fun k=>k=p) _).set ⟨p,3,none⟩ _ (.inl rfl)).set ⟨p,0,none⟩ _ (.inl rfl)).set ⟨p,1,none⟩ _ (.inl rfl)).set ⟨p,3,none⟩ _ (.inl rfl)
 refine Went.mk' (g0:=g1) (g1:=g1) (A1:=none) (va:=vb') (vb:=[]) ⟨?_,?_,.inl ⟨rfl,rfl,rfl⟩,?_⟩ ?_ (.inl hf.p) (.inl (hf.g1 hb)) (fun h=>absurd rfl h) ?_
 ·have:=(((hbl.set 3 (.int .i64 (D.place+1:Nat))).set 0 (.slice A1 D.b.length D.b.length)).set 1 (.slice none 0 0)).set 3 (.int .i64 0)
  simpa [hA,Y3] using this
 ·refine TabAt.past Qc ?_ f2 hbl;refine htb.far f1 ?_;rintro k (rfl|⟨v,hv,hk⟩) rfl
  ·exact hg rfl
  ·obtain ⟨r,hr⟩:=htb.mem hv;obtain ⟨c,hc⟩:=hr.blk hk;exact absurd (hm1.ta.blk.ty hc) (by decide)
 ·rw [List.append_nil];exact hm1.sep.right
 ·refine (((((hF.mono (S1:=S) ?_).set _ _ (.inl hf.g0)).set _ _ (.inl hf.p)).set _ _ (.inl hf.p)).set _ _ (.inl hf.p)).set _ _ (.inl hf.p);rintro k (rfl|⟨u,hu,hk⟩)
  ·exact hf.g1 hb
  ·exact hf.row u (List.mem_append_right _ hu) k hk
 ·intro v hv k hk;rw [List.append_nil] at hv;rcases hI v hv k hk with ⟨u0,h1,h2⟩|h1
  ·exact .inl (hf.row u0 (List.mem_append_right _ h1) k h2)
  ·exact .inr h1
theorem Jo(h:Rep tyP w p S seed D)(ok:D.Ok tyP)(hb:D.b≠[])(hn:D.n<=1000000) :
 Calls Tryz.prog 63 #[.pointer (some ⟨p,0,none⟩),.int .i64 D.place] w fun e w'=>e=.returned (.tuple #[])/\Went tyP S w p seed D.move1 w':=by
 obtain ⟨g0,g1,A1,va,vb,hm,hf,hc⟩:=h;obtain ⟨c0,c1,c2,c3,c4,f0,f1,f3,f4⟩:=Zk hm;have hpl:=ok.place hb;have hvl:va.length=D.a.length:=hm.ta.len;obtain ⟨v,hv⟩:∃ v,va[D.place]?=some v:=⟨_,List.getElem?_eq_getElem (by omega)⟩;have hr:=hm.ta.row _ _ _ hv (List.getElem?_eq_getElem hpl);have hgd:D.a.getD D.place []=D.a[D.place]:=by rw [List.getD_eq_getElem?_getD,List.getElem?_eq_getElem hpl];rfl
 rw [<- hgd] at hr;rcases hm.tb with ⟨h,_⟩|⟨_,rfl,hg,htb⟩
 ·exact absurd h hb
 have hcell:∀ W,(Blk W g0 142 va.toArray)->W.cell? ⟨g0,D.place,none⟩=some v/\W.frozen? ⟨g0,D.place,none⟩=false:=fun W hB=>⟨by rw [hB.cell];simpa using hv,hB.free _⟩;obtain ⟨d0,d1⟩:=hcell w hm.ta.blk
 have htot:D.b.flatten.length+(D.a.getD D.place []).length<=1000000:=by
  have h1:=Jw D.a (D.a.getD D.place []) (by rw [hgd];exact List.getElem_mem hpl);have h2:=ok.n;omega
 have hdr:Bl w w.drew:=(Below.refl _ _).drew;have hmd:=hm.later hdr;have htbd:=htb.later hdr
 have HPUT:=jY (Us g1 vb D.b v (D.a.getD D.place []) w.drew htbd hm.sep.right (ok.b hb) (hr.far (S:=fun _=>False) (Far.of_below hdr) fun _ _ h=>h) (fun u hu k hk hk2=>Sep.apart hm.sep (List.mem_of_getElem? hv) hu hk2 hk)
  (ok.fine _ (.inl (by rw [hgd];exact List.getElem_mem hpl))) htot)
 have hal:=Zm ok.a;have hpl2:(D.place:Int)<D.a.length:=by omega
 have hgp:p≠g0:=fun e=>by have h1:=hm.dict;rw [e] at h1;exact absurd (h1.ty hm.ta.blk) (by decide)
 have hgp':g0≠p:=fun e=>hgp e.symm;have HMID:=fun w1 hP=>jY (Jp hmd hb (w1:=w1) hP);have HON:=fun vb' w1 hm1 hI hF hl=>jY (Went.since hdr (Fw (vb':=vb') (A1:=some ⟨g1,0,none⟩) (seed:=seed) hf hb (w:=w.drew) (w1:=w1) hm1 hI hF hl));have HLAST:=fun vb' w1 hm1 hI hF hl=>jY (Went.since hdr (Mp (vb':=vb') (A1:=some ⟨g1,0,none⟩) (seed:=seed) hf hb (w:=w.drew) (w1:=w1) hm1 hI hF hl));have HC:=fun W hB=>jY (hcell W hB);clear hm hf hc hmd htbd htb hr hv hcell hvl
 go_enter Tryz.func63,Tryz.ntmps63
 go_wp2
 go_still_tail 13,(by kernel_rfl)
 change wpList _ _ _ _ _ w.drew;go_wp2_with fail;refine HPUT.out.mono ?_;rintro e w1 ⟨rfl,hP⟩;obtain ⟨vb',hm1,hI,hF⟩:=(HMID _ hP).out;obtain ⟨k0,k1,k2,k3,k4,l0,l1,l3,l4⟩:=Zk hm1;obtain ⟨e0,e1⟩:=(HC _ hm1.ta.blk).out;have HON':=HON vb' w1 hm1 hI hF;have HLAST':=HLAST vb' w1 hm1 hI hF;simp only [Y3] at k1;clear HON HLAST HC HMID HPUT hm1 hI hF hP hgd
 by_cases hl:D.place+1=D.a.length
 ·have hl2:(D.place:Int)+1=D.a.length:=by omega
  have HL:=HLAST' hl;clear HON' HLAST' hl;have hl3:=jY hl2;have hl4:((D.place:Int)+1==D.a.length)=true:=by rw [hl2];simp
  clear hl2;go_wp2
  go_quiet (fail)
  go_wp2;go_returns;exact ⟨rfl,HL.out.later ⟨rfl,rfl,rfl,Nat.le_refl _,fun _ _=>rfl⟩⟩
 ·have hl2:((D.place:Int)+1==D.a.length)=false:=by rw [beq_eq_false_iff_ne];omega
  have HL:=HON' hl;clear HON' HLAST' hl;go_wp2
  go_quiet (fail)
  go_wp2;go_returns;exact ⟨rfl,HL.out.later ⟨rfl,rfl,rfl,Nat.le_refl _,fun _ _=>rfl⟩⟩
variable {S:Nat->Prop} {p seed:Nat} {D:Dc} {w:World}
theorem Qt(h:Rep tyP w p S seed D)(ok:D.Ok tyP)(L:List Nat):By Tryz.prog 62 #[.pointer (some ⟨p,0,none⟩)] #[] If (List.range' D.place D.left) L w:=by
 intro l J Jx W hW hJ hJx hY hJ0;have hR:=h.later hW;have hmv:=X2 hR;refine callsIn_of_wp Tryz.func62 rfl trivial ?_ rfl;simp only [Tryz.ntmps62,List.size_toArray,List.length_cons,List.length_nil,Nat.reduceAdd,Nat.reduceSub,Array.replicate_succ,Array.replicate_zero,List.push_toArray,List.append_toArray,List.nil_append,List.cons_append,List.append_nil];have HY:=jY hY;clear hY;obtain ⟨g0,g1,A1,va,vb,hm,_,_⟩:=hR;obtain ⟨c0,c1,c2,c3,c4,f0,f1,f3,f4⟩:=Zk hm
 cases hb:D.moving with
 | false =>
   have hl:D.left=0:=by unfold Dc.left;rw [if_pos ((Yj D).1 hb)]
   rw [hb] at hmv;have HM:=jY hmv;have HL:=jY hl;clear hmv hm hb hl h ok
   gi_wp2_with fail
   refine ⟨trivial,?_⟩;refine callsIn_wide.2 (Calls.mono HM.out ?_);rintro e w1 ⟨rfl,rfl⟩;gi_wp2;go_returns;exact ⟨⟨_,rfl⟩,.inl (by rw [HL.out];exact hJ0)⟩
 | true =>
   have hbn:=z9y hb;have hpl:=ok.place hbn;have hl:D.left=D.a.length-D.place:=by unfold Dc.left;rw [if_neg hbn]
   have hal:=(Zm ok.a).2;rw [hb] at hmv;have HM:=jY hmv;clear hmv hm hb h ok;have hpl2:(D.place:Int)<D.a.length:=by omega
   gi_wp2_with fail
   refine ⟨trivial,?_⟩;refine callsIn_wide.2 (Calls.mono HM.out ?_);rintro e w1 ⟨rfl,rfl⟩;gi_wp2
   gi_loopw [5] (fun s wr=>∃ (i:Nat),s=.int .i64 (D.place+i:Nat)/\i<=D.left/\J i wr) (fun s _=>D.a.length-(intOf s).toNat)
   case atStart=>exact ⟨0,rfl,by omega,hJ0⟩
   case round =>
    clear c0 c1 c2 c3 c4 f0 f1 f3 f4;obtain ⟨i,rfl,hi,hJi⟩:=hrel
    by_cases hlt:i<D.left
    ·have hx:(List.range' D.place D.left)[i]?=some (D.place+i):=by rw [List.getElem?_range' hlt];simp
     obtain ⟨fn,tmps,assign,body,hy,hRd⟩:=HY.out i _ wr hx hJi;unfold If at hy;have hq:((D.place+i:Nat):Int)<D.a.length:=by omega
     have hq2:((D.place+i:Nat):Int)<=65536:=by omega
     have HI:=jY hi;have HL:=jY hl;clear hl hx;generalize hs:D.place+i=s at *;have HS:=jY hs;clear hs
     gi_wp2_with fail
     (try refine ⟨fun _=>by decide,?_⟩)
     refine hRd.mono ?_;rintro e W3 (⟨rfl,hJ3,hk3⟩|⟨rfl,hJx3⟩)
     ·clear hRd hy;gi_wp2
      have:=HS.out
      refine ⟨⟨i+1,by congr 1;omega,hlt,hJ3⟩,?_⟩;simp only [intOf];omega
     ·gi_wp2
      go_end0
      exact ⟨⟨_,rfl⟩,.inr ⟨_,hJx3⟩⟩
    ·obtain rfl:i=D.left:=by omega
     have hq:¬ ((D.place+D.left:Nat):Int)<D.a.length:=by omega
     gi_wp2;refine ⟨fun _ h=>(by cases h),?_⟩;gi_wp2
     go_end0
     exact ⟨⟨_,rfl⟩,.inl (by rw [List.length_range'];exact hJi)⟩
theorem y4u:¬ itT tyP.d/\¬ itT tyP.t/\¬ itT tyP.r:=by unfold itT tyP;decide
theorem I5(h:Rep tyP w p S seed D)(ok:D.Ok tyP)(hn:D.n<=1000000)(n:Int) :
 Calls Tryz.prog 40 #[.pointer (some ⟨p,0,none⟩),.int .i64 n] w fun e w'=>e=.returned (.int .i64 (min n.toNat D.left:Nat))/\Went tyP S w p seed (D.step n.toNat) w':=by
 refine (callsIn_wide (n:=6)).1 (callsIn_of_wp_marks Tryz.func40 rfl trivial ?_ rfl);refine wpIn_wide.2 ?_;simp only [Tryz.ntmps40,List.size_toArray,List.length_cons,List.length_nil,Nat.reduceAdd,Nat.reduceSub,Array.replicate_succ,Array.replicate_zero,List.push_toArray,List.append_toArray,List.nil_append,List.cons_append];have hal:=(Zm ok.a).2;have hll:D.left<=65536:=by unfold Dc.left;split <;> omega
 have hfacts:=fun k hk=>jY (Vj ok k hk);go_wp2;refine wp_scope_straight ?_;go_wp2;refine wp_label ?_;go_wp2;have k1:=((Blk.new w 52 #[Value.pointer (some ⟨p,0,none⟩)]).alloc (Obj.cells #[Value.int .i64 n] 3)).alloc (Obj.cells #[Value.int .i64 0] 3);have k2:=(Blk.new (w.alloc (Obj.cells #[Value.pointer (some ⟨p,0,none⟩)] 52)) 3 #[Value.int .i64 n]).alloc (Obj.cells #[Value.int .i64 0] 3);have k3:=Blk.new ((w.alloc (Obj.cells #[Value.pointer (some ⟨p,0,none⟩)] 52)).alloc (Obj.cells #[Value.int .i64 n] 3)) 3 #[Value.int .i64 0];simp only [World.size_alloc] at k2 k3;have hB:=(((Below.refl w.heap.size w).alloc (Nat.le_refl _) (Obj.cells #[Value.pointer (some ⟨p,0,none⟩)] 52)).alloc (by simp) (Obj.cells #[Value.int .i64 n] 3)).alloc (by simp;omega) (Obj.cells #[Value.int .i64 0] 3);have hsz:(((w.alloc (Obj.cells #[Value.pointer (some ⟨p,0,none⟩)] 52)).alloc (Obj.cells #[Value.int .i64 n] 3)).alloc (Obj.cells #[Value.int .i64 0] 3)).heap.size=w.heap.size+3:=by simp
 generalize (((w.alloc (Obj.cells #[Value.pointer (some ⟨p,0,none⟩)] 52)).alloc (Obj.cells #[Value.int .i64 n] 3)).alloc (Obj.cells #[Value.int .i64 0] 3))=w1 at *
 refine (wpIn_wide (n:=6)).1 (Pb (gf:=62) (fb:=#[.pointer (some ⟨p,0,none⟩)]) (lb:=#[]) (encs:=If) (xs:=List.range' D.place D.left) (L:=[w.heap.size+2]) rfl (enters_of Tryz.func62 (by kernel_rfl) rfl) (Qt (h.later hB) ok _) (fun _ _=>rfl)
  (fun i W=>(i:Int)<=n.toNat/\i<=D.left/\Went tyP S w p seed (Dc.run i D) W/\Blk W w.heap.size 52 #[.pointer (some ⟨p,0,none⟩)]/\Blk W (w.heap.size+1) 3 #[.int .i64 n]/\Blk W (w.heap.size+2) 3 #[Value.int IntKind.i64 i])
  (fun c _ W=>match c with
    | .exit id=>id=0/\n.toNat<=D.left/\Went tyP S w p seed (Dc.run n.toNat D) W/\Blk W (w.heap.size+2) 3 #[.int .i64 n.toNat]
    | _=>False)
  ?hI ?hIx ?h0 (fun i x a' W=>a'={ tmps:=#[Value.pointer (some ⟨p,0,none⟩),Value.int IntKind.i64 n,Value.pointer (some { block:=w.heap.size,off:=0 }),Value.pointer (some { block:=w.heap.size+1,off:=0 }),
   Value.int IntKind.i64 0,Value.pointer (some { block:=w.heap.size+2,off:=0 }),Value.int IntKind.i64 x,Value.pointer (some ⟨p,0,none⟩),Value.func (Fn.func 62) #[Value.pointer (some ⟨p,0,none⟩)] #[],Value.int IntKind.i64 x,
   undef,undef,undef,undef,undef,undef,undef,undef,undef],defers:=[] })
  (fun _ _ _=>Z0 _ _) ?assign ?body ?done ?stop)
 case hI=>exact (Z0 _ _).and ((Z0 _ _).and ((Yv _ (by omega) _ _ _).and ((Zb _ _ _ _).and ((Zb _ _ _ _).and (Zb _ _ _ _)))))
 case hIx =>
  intro c
  cases c with
  | exit id=>exact (Z0 _ _).and ((Z0 _ _).and ((Yv _ (by omega) _ _ (fun _=>_)).and (Zb _ _ _ _)))
  | _=>exact Z0 _ _
 case h0=>exact ⟨by omega,by omega,(Went.start h).later hB,k1,k2,k3⟩
 case assign =>
  rintro l i x W K hx' ⟨hi,hi2,q0,q1,q2,q3⟩ hK;unfold If;gi_wp2;exact hK _ _ (KeepsFrom.refl _ _) (KeepC.refl _ _) ⟨hi,hi2,q0,q1,q2,q3⟩ rfl
 case body =>
  rintro l i x a' W hx' ⟨hi,hi2,q0,q1,q2,q3⟩ rfl;obtain ⟨hlt,hxe⟩:=List.getElem?_eq_some_iff.1 hx';rw [List.length_range'] at hlt;rw [List.getElem_range'] at hxe;obtain rfl:x=D.place+i:=by omega
  obtain ⟨ok1,_,hn1,hfi⟩:=(hfacts i hi2).out;obtain ⟨hbi,hpi⟩:=hfi hlt;obtain ⟨c1,d1⟩:=Z4 q1;obtain ⟨c2,d2⟩:=Z4 q2;obtain ⟨c3,d3⟩:=Z4 q3;have hMV:=Jo q0.1 ok1 hbi (by omega);rw [hpi] at hMV;have HMV:=jY hMV;have Q0:=jY q0;have Q1:=jY q1;have Q2:=jY q2;have Q3:=jY q3;clear hMV hxe k1 k2 k3 q0 q1 q2 q3 hpi hx' hn1;have hi3:(i:Int)<=65536:=by omega
  by_cases hni:n<=(i:Int)
  ·have hin:n.toNat=i:=by omega
   gi_wp2;refine ⟨KeepsFrom.refl _ _,rfl,by omega,?_,?_⟩
   ·rw [hin];exact Q0.out
   ·rw [hin];exact Q3.out
  ·have hni2:(i:Int)<n:=by omega
   clear hni
   gi_wp2_with fail
   (try refine ⟨trivial,?_⟩)
   refine (CallsIn.inRound l (callsIn_wide.2 HMV.out)).mono ?_;rintro e W2 ⟨rfl,hw⟩;have q1':=hw.blk Q1.out (fun k hk=>hk.2) (by decide);have q2':=hw.blk Q2.out (fun k hk=>hk.2) (by decide);have q3':=hw.blk Q3.out (fun k hk=>hk.2) (by decide);obtain ⟨e3,g3⟩:=Z4 q3';have hkf:=hw.2.keeps (fun k hk=>hk.2) w1.heap.size;have hkc:=hw.2.keepc (fun k hk=>hk.2) y4u [w.heap.size+2];have HW:=jY (Q0.out.trans hw);have P1:=jY q1';have P2:=jY q2';have P3:=jY q3';clear hw q1' q2' q3';gi_wp2;refine ⟨hkf.trans ((KeepsOthers.setCell _ _ _).from _),hkc.trans (KeepC.set _ _ _ _ (by simp)),by omega,hlt,?_,?_,?_,?_⟩
   ·have hz:=HW.out.2.size
    have:=(HW.out.1.far (S1:=fun k=>k=w.heap.size+2) (W':=W2.setCell ⟨w.heap.size+2,0,none⟩ (.int .i64 ((i:Int)+1))) ((Far.refl _ _).set _ _ (.inl rfl)) (fun k hk e=>by subst e;exact Yf P3.out (by decide) hk.2))
    exact ⟨this.wide (fun k hk=>⟨hk.1,this.cells k hk⟩) (fun _ hk=>hk.2),HW.out.2.set _ _ (.inr (by simp))⟩
   ·exact P1.out.setOther 0 _ (by omega)
   ·exact P2.out.setOther 0 _ (by omega)
   ·exact P3.out.set 0 _
 case done =>
  rintro Dd W hD ⟨hi,hi2,q0,q1,q2,q3⟩ hK;rw [List.length_range'] at *;obtain ⟨c3,d3⟩:=Z4 q3;have HK:=jY hK;have Q0:=jY q0;clear hK q0 q1 q2 q3 k1 k2 k3;have hmin:min n.toNat D.left=D.left:=by omega
  simp only [Exit.inBlock,Exit.then];go_wp2;refine Zp (v:=.int .i64 D.left) rfl HK.out (by simp [results,Tryz.results40,go_sem]) ⟨by rw [hmin],?_⟩;unfold Dc.step;rw [hmin];exact (Yv (β:=Unit) w.heap.size (Nat.le_refl _) p seed (fun _=>_)).putObj (s:=()) _ Q0.out (by omega) HK.out rfl
 case stop =>
  rintro Dd c j W hD hI hK
  cases c with
  | exit id =>
    obtain ⟨rfl,hi2,q0,q3⟩:=hI;obtain ⟨c3,d3⟩:=Z4 q3;have HK:=jY hK;have Q0:=jY q0;clear hK q0 q3 k1 k2 k3;have hmin:min n.toNat D.left=n.toNat:=by omega
    refine wpIn_wide.2 ?_;go_wp2;refine Zp (v:=.int .i64 (n.toNat:Nat)) rfl HK.out (by simp [results,Tryz.results40,go_sem]) ⟨by rw [hmin],?_⟩;unfold Dc.step;rw [hmin];exact (Yv (β:=Unit) w.heap.size (Nat.le_refl _) p seed (fun _=>_)).putObj (s:=()) _ Q0.out (by omega) HK.out rfl
  | _=>exact hI.elim
variable {S:Nat->Prop} {p seed:Nat} {D:Dc} {w:World}
theorem My(sum:Nat)(w:World):Calls Tryz.prog 114 #[.pointer (some ⟨p,0,none⟩),.int .u32 sum] w fun e w' =>
 e=.returned (.func (.func 134) #[] #[.pointer (some ⟨w.heap.size,0,none⟩),.pointer (some ⟨w.heap.size+1,0,none⟩)])/\w'=(w.alloc (Obj.cells #[.pointer (some ⟨p,0,none⟩)] 52)).alloc (Obj.cells #[.int .u32 sum] 24):=by
 go_enter Tryz.func114,Tryz.ntmps114
 go_wp2;go_ret;exact ⟨rfl,rfl⟩
theorem Au(a:Option Addr)(n c:Nat)(a':Option Addr)(n' c':Nat)(W:World):(Instr.index 102 (.agg #[.slice a n c,.slice a' n' c']) (.int .i64 0)).run Tryz.prog W=.ok (.slice a n c) W:=by
 simp [Instr.index,run_underlying Tryz.underlying102,asIntOf,go_sem]
theorem Av(a:Option Addr)(n c:Nat)(a':Option Addr)(n' c':Nat)(W:World):(Instr.index 102 (.agg #[.slice a n c,.slice a' n' c']) (.int .i64 1)).run Tryz.prog W=.ok (.slice a' n' c') W:=by
 simp [Instr.index,run_underlying Tryz.underlying102,asIntOf,go_sem]
theorem Ob{g0 g1:Nat}{A1:Option Addr}{va vb:List Value}(h:Mem tyP w p g0 g1 A1 va vb seed D)(ok:D.Ok tyP)(sum:Nat)(hs:sum<4294967296)(B1 B2:Nat)(h1:Blk w B1 52 #[.pointer (some ⟨p,0,none⟩)])(h2:Blk w B2 24 #[.int .u32 sum])(L:List Nat)(hL1:B1 ∉ L)(hL2:B2 ∉ L) :
 Kn itT Tryz.prog 134 #[.pointer (some ⟨B1,0,none⟩),.pointer (some ⟨B2,0,none⟩)] Ig (D.slots g0 g1 sum) L w:=by
 intro l J Jx W hW hJ hJx hY hJ0;have hm:=h.later hW;have k1:=h1.later hW;have k2:=h2.later hW;obtain ⟨c0,c1,c2,c3,c4,f0,f1,f3,f4⟩:=Zk hm;obtain ⟨d1,e1⟩:=Z4 k1;obtain ⟨d2,e2⟩:=Z4 k2;have hal:=Zm ok.a;have HI0:=fun w=>Vs sum hs D.a.length w;rw [Ma sum ok.a] at HI0;have hlt0:sum % D.a.length<D.a.length:=Nat.mod_lt _ (by omega);have hlt0':((sum % D.a.length:Nat):Int)<D.a.length:=by omega
 have hsl0:(D.slots g0 g1 sum)[0]?=some (g0,sum % D.a.length):=rfl;have HI1:=fun w=>Vs sum hs D.b.length w
 have hbl:D.b.length<=65536:=by
  by_cases hb:D.b=[]
  ·rw [hb];simp
  ·have:=Zm (ok.b hb);omega
 refine callsIn_of_wp Tryz.func134 rfl trivial ?_ rfl;simp only [Tryz.ntmps134,List.size_toArray,List.length_cons,List.length_nil,Nat.reduceAdd,Nat.reduceSub,Array.replicate_succ,Array.replicate_zero,List.push_toArray,List.append_toArray,List.nil_append,List.cons_append]
 have HA:Hid (D.b≠[]->A1=some ⟨g1,0,none⟩):=jY (fun hb=>by
  rcases hm.tb with ⟨h,_⟩|⟨_,h,_⟩
  ·exact absurd h hb
  ·exact h)
 have HY:=jY hY;clear hY hm h h1 h2;have HK1:=jY k1;have HK2:=jY k2;have HL0:=jY hsl0;clear k1 k2 hsl0;generalize sum % D.a.length=j0 at *;have hx0:=Au;have hx1:=Av;gi_wp2
 gi_loopw [12] (fun s wr=>∃ (i:Nat),s=.int .i64 i/\i<=2/\Blk wr B1 52 #[.pointer (some ⟨p,0,none⟩)]/\Blk wr B2 24 #[.int .u32 sum]/\(i=0/\J 0 wr\/i=1/\J 1 wr\/i=2/\J (D.slots g0 g1 sum).length wr)) (fun s _=>2-(intOf s).toNat)
 case atStart=>exact ⟨0,rfl,by omega,HK1.out,HK2.out,.inl ⟨rfl,hJ0⟩⟩
 case round =>
  obtain ⟨i,rfl,hi,q1,q2,hJi⟩:=hrel;clear c0 c1 c2 c3 c4 f0 f1 f3 f4 d1 e1 d2 e2 HK1 HK2;obtain ⟨d1,e1⟩:=Z4 q1;obtain ⟨d2,e2⟩:=Z4 q2;have Q1:=jY q1;have Q2:=jY q2;clear q1 q2;rcases hJi with ⟨rfl,hJi⟩|⟨rfl,hJi⟩|⟨rfl,hJi⟩
  ·obtain ⟨fn,tmps,assign,body,hy,hRd⟩:=HY.out 0 _ wr HL0.out hJi;have HRd:=jY (HY.out 0 _ · HL0.out);clear hRd hy fn tmps assign body
   gi_wp2_with fail
   refine ⟨trivial,?_⟩;refine callsIn_wide.2 (Calls.mono (HI0 _) ?_);rintro e w2 ⟨rfl,hb2⟩;obtain ⟨fn,tmps,assign,body,hy,hRd⟩:=HRd.out w2 (hJ _ _ _ hJi hb2);unfold Ig at hy;have q1:=Q1.out.later hb2;have q2:=Q2.out.later hb2;have P1:=jY q1;have P2:=jY q2;clear q1 q2
   gi_wp2_with fail
   (try refine ⟨fun _=>by decide,?_⟩)
   refine hRd.mono ?_;rintro e W3 (⟨rfl,hJ3,hk3⟩|⟨rfl,hJx3⟩)
   ·have q1:=P1.out.keep hk3 hL1;have q2:=P2.out.keep hk3 hL2;clear hRd hy;gi_wp2;refine ⟨⟨1,rfl,by omega,q1,q2,.inr (.inl ⟨rfl,hJ3⟩)⟩,?_⟩;simp [intOf]
   ·gi_wp2;go_returns;exact ⟨⟨_,rfl⟩,.inr ⟨_,hJx3⟩⟩
  ·by_cases hb:D.b=[]
   ·have hln:(D.slots g0 g1 sum).length=1:=by unfold Dc.slots;rw [if_pos hb];rfl
    have hb0:D.b.length=0:=by rw [hb];rfl
    rw [hb0] at HI1;rw [I4] at HI1;have HN:=jY hln;have HB:=jY hb;clear hb hln;rw [hb0];clear hb0
    gi_wp2_with fail
    refine ⟨trivial,?_⟩;refine callsIn_wide.2 (Calls.mono (HI1 _) ?_);rintro e w2 ⟨rfl,hb2⟩;have hJ2:=hJ _ _ _ hJi hb2;have q1:=Q1.out.later hb2;have q2:=Q2.out.later hb2;have P1:=jY q1;have P2:=jY q2;clear q1 q2;gi_wp2;refine ⟨fun _ h=>(by cases h),?_⟩;gi_wp2;refine ⟨⟨2,rfl,by omega,P1.out,P2.out,.inr (.inr ⟨rfl,by rw [HN.out];exact hJ2⟩)⟩,?_⟩;simp [intOf]
   ·have hln:(D.slots g0 g1 sum).length=2:=by unfold Dc.slots;rw [if_neg hb];rfl
    have hs1:(D.slots g0 g1 sum)[1]?=some (g1,sum % D.b.length):=by unfold Dc.slots;rw [if_neg hb];rfl
    obtain rfl:=HA.out hb;have hbs:=Zm (ok.b hb);rw [Ma sum (ok.b hb)] at HI1;have hlt1:sum % D.b.length<D.b.length:=Nat.mod_lt _ (by omega);have hlt1':((sum % D.b.length:Nat):Int)<D.b.length:=by omega
    have HN:=jY hln;have HS1:=jY hs1;clear hb hln hs1 hlt0 hlt0';generalize sum % D.b.length=j1 at *;have HRd:=jY (HY.out 1 _ · HS1.out)
    gi_wp2_with fail
    refine ⟨trivial,?_⟩;refine callsIn_wide.2 (Calls.mono (HI1 _) ?_);rintro e w2 ⟨rfl,hb2⟩;obtain ⟨fn,tmps,assign,body,hy,hRd⟩:=HRd.out w2 (hJ _ _ _ hJi hb2);unfold Ig at hy;have q1:=Q1.out.later hb2;have q2:=Q2.out.later hb2;have P1:=jY q1;have P2:=jY q2;clear q1 q2
    gi_wp2_with fail
    (try refine ⟨fun _=>by decide,?_⟩)
    refine hRd.mono ?_;rintro e W3 (⟨rfl,hJ3,hk3⟩|⟨rfl,hJx3⟩)
    ·have q1:=P1.out.keep hk3 hL1;have q2:=P2.out.keep hk3 hL2;clear hRd hy;gi_wp2;refine ⟨⟨2,rfl,by omega,q1,q2,.inr (.inr ⟨rfl,by rw [HN.out];exact hJ3⟩)⟩,?_⟩;simp [intOf]
    ·gi_wp2;go_returns;exact ⟨⟨_,rfl⟩,.inr ⟨_,hJx3⟩⟩
  ·gi_wp2
   go_end0
   exact ⟨⟨_,rfl⟩,.inl hJi⟩
end Go.Proofs.YtmehfohpjigmmaaGreatDoor.Dc.Dt

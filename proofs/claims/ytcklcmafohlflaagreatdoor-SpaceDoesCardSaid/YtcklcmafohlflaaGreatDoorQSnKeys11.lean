/- Texts of one kind in one: SnKeys, SnBucket, SnStretch, SnMask, SnScan. -/
import Derived.Test.YtcklcmafohlflaaGreatDoorQDtSet10
import Derived.Sort.OwnSorted
import Derived.Deep.CutRange
set_option maxRecDepth 200000
set_option maxHeartbeats 8000000
namespace Go.Proofs.YtcklcmafohlflaaGreatDoor.Dc.Dt
open Zc
open Go.RowKit Go.Shelf Go.Sort
attribute [local go_sem] Oper.semAt_some
def Zs(x:Nd):List UInt8:=x.key.data.toList
def Xh(l:List (List UInt8)):List (List UInt8):=l.mergeSort fun x y=>decide (x<=y)
def Own9(W:World)(base:Nat)(v:Value)(ks:List (List UInt8)):Prop:=W.ownsRow base 9 1 v ks.length (ks.map encStr)
theorem x2o:(Tryz.prog.info? 9).map (fun i=>(i.zero,i.size,i.bytes))=some (some (.string ⟨#[]⟩),1,16):=by kernel_rfl
theorem Own9.below{W W':World}{base:Nat}{v:Value}{ks:List (List UInt8)}(h:Own9 W base v ks)(hb:Bl W W'):Own9 W' base v ks :=
 h.kept (row:=none) ⟨hb.os,hb.tape,hb.output,hb.size,fun k hk _=>hb.block k hk⟩ (by
  cases hv:v.ownBlock with
  | none=>exact .inl rfl
  | some k=>exact .inr (by simp))
theorem x2w(v:Value)(r:List Nd)(w:World)(hR:RowAt tyP w v r)(hl:r.length<=1000000)(hf:∀ x∈r,x.fine tyP) :
 Calls Tryz.prog 176 #[v] w fun e w'=>∃ u,e=.returned u/\Own9 w' w.heap.size u (Xh (r.map Zs))/\Bl w w':=by
 obtain ⟨i0,hi0,hz0,hz1,hz2⟩:=info_parts x2o;have hrl:=jY hl;have HR:=jY hR;have HF:=jY hf;obtain ⟨A,cap,rfl,hcap,hmax,_⟩:=hR.form;have hl2:(r.length:Int)<=1000000:=by omega
 clear hR hf
 go_enter Tryz.func176,Tryz.ntmps176
 go_wp2
 go_loopw [3,8] (fun lv i wr=>∃ k:Nat,i=.int .i64 k/\k<=r.length/\Own9 wr w.heap.size lv ((r.take k).map Zs)/\Bl w wr) (fun _ i _=>r.length-(intOf i).toNat)
 case atStart=>exact ⟨0,rfl,by omega,World.ownsRow_nil _ _ _ _,Below.refl _ _⟩
 case round =>
  obtain ⟨k,rfl,hk,hO,hb⟩:=hrel
  by_cases hlt:k<r.length
  ·have hx:r[k]?=some r[k]:=lAa hlt;obtain ⟨A',cap',he,_,_,hat⟩:=(HR.out.far (S:=fun _=>False) (W':=wr) ⟨hb.os,hb.tape,hb.output,hb.size,fun k hk _=>hb.block k hk⟩ (fun _ _ h=>h)).form;obtain ⟨gv,hA,hob,c0,c1,c2,_⟩:=hat k _ hx
   cases he
   subst hA;have hfx:=HF.out _ (List.getElem_mem hlt);have hnx:(r.take (k+1)).map Zs=(r.take k).map Zs++[Zs r[k]]:=by rw [lAf hlt,List.map_append];rfl
   have hkl:((r.take k).map Zs).length=k:=by simp;omega
   have HNX:=jY hnx;clear hnx hx;generalize r[k]=x at *;obtain ⟨sum,key,vv⟩:=x;obtain ⟨_,nv,hnv⟩:=hfx;simp only at c0 c1 c2 hnv;subst hnv;have hzb:=hb.size;have hO2:=(hO.below (W':=wr.alloc (Obj.cells #[.int .u32 sum,.string key,.pointer nv] 194)) ((Below.refl _ _).alloc (lAd _) _)).alloc (Obj.cells #[.string key] 9);have HO2:=jY hO2;clear hO hO2 hat
   go_wp2_with (at_builtin;refine wpList_append_own _ rfl _ _ 40 rfl w.heap.size 9 i0 (.string ⟨#[]⟩) 1 16 Tryz.underlying40 hi0 hz0 hz1 hz2 rfl (by decide) _ _ _ rfl HO2.out ⟨wr.heap.size+1,0,none⟩ 1 1 [.string key] (by simp [Act.eval]) rfl (by have:=cell_one_new (wr.alloc (Obj.cells #[.int .u32 sum,.string key,.pointer nv] 194)) (.string key) 9;simpa using this) (by simp [Value.oneCell']) (by unfold maxLen;omega) (by omega) (by simp;omega) ?_;intro v7 w7 hown7 hgrow _)
   have hb7:Bl w w7:=((hb.alloc hb.size _).alloc (by simp;omega) _).grown hgrow (by simp;omega) (fun k e=>(World.ownsRow.lt HO2.out k e).1);have HB7:=jY hb7;have HO7:=jY hown7;clear hb7 hown7 hgrow;go_wp2;refine ⟨⟨k+1,by go_num,hlt,?_,HB7.out⟩,by simp [intOf];omega⟩
   have:=HO7.out
   unfold Own9;rw [HNX.out,List.map_append,lAh];exact this
  ·obtain rfl:k=r.length:=by omega
   rw [List.take_length] at hO;have hsl:(Xh (r.map Zs)).length=(r.map Zs).length:=by unfold Xh;simp
   have HSL:=jY hsl;clear hsl;rcases hO.2 with ⟨hnil,h0⟩|⟨g,cap2,cur,hv,hbase,hgb,h1,h2,h3,h4⟩
   ·subst hnil;have hr0:Xh (r.map Zs)=[]:=List.eq_nil_of_length_eq_zero (by rw [HSL.out];exact h0);have HR0:=jY hr0;have HB:=jY hb;clear hO hb hr0 h0;go_wp2_with fail
    (with_reducible refine (Tryz.slices_Sort_string_none none 0 _).mono ?_)
    rintro e w8 ⟨rfl,rfl⟩;go_wp2;go_ret;exact ⟨_,rfl,by unfold Own9;rw [HR0.out];exact World.ownsRow_nil _ _ _ _,HB.out⟩
   ·subst hv;have hgl:g<wr.heap.size:=(Array.getElem?_eq_some_iff.1 hgb).1;have hS:=Tryz.slices_Sort_string g 0 cap2 (r.map Zs) wr (holds_of_block hgb (by simpa using h4)) hgl (by simp;omega);rw [List.length_map] at hS h1;have HS:=jY hS;have HB:=jY hb;have HGB:=jY hgb;have H4:=jY h4
    have hfin:∀ n os,Hid (Own9 (Sort.grow (putRow encStr (Sort.ahead wr n) g 0 (Xh (r.map Zs)).toArray) os) w.heap.size (.slice (some ⟨g,0,none⟩) r.length cap2) (Xh (r.map Zs))/\Bl w (Sort.grow (putRow encStr (Sort.ahead wr n) g 0 (Xh (r.map Zs)).toArray) os)):=fun n os=>jY (by
     have e1:=ownsRow_sorted (n:=n) (os:=os) (ss:=r.map Zs) (ts:=Xh (r.map Zs)) (by rw [HSL.out]) hbase HGB.out (by rw [List.length_map];exact h1) h2 h3;refine ⟨?_,HB.out.grown (grownBy_sorted _) HB.out.size (fun k e=>by cases e;exact hbase)⟩;unfold Own9;rw [HSL.out,List.length_map];rw [List.length_map] at e1
     exact e1)
    clear hO hb hgb hS h1 h2 h3 h4 hgl;rw [List.length_map];go_wp2_with fail
    (with_reducible refine HS.out.mono ?_)
    rintro e w8 ⟨rfl,n8,os8,rfl⟩;have HFN:=hfin n8 os8;unfold Xh at HFN;go_wp2;go_ret;exact ⟨_,rfl,HFN.out⟩
section
variable {S:Nat->Prop} {p seed:Nat} {D:Dc} {w:World}
def Xr(D:Dc)(t:Nat):List (List Nd):=if t=0 then D.a else D.b
theorem y6v(h:Rep tyP w p S seed D)(ok:D.Ok tyP)(hn:D.n<=1000000)(t:Nat)(ht:t=0\/t=1)(s:Nat)(r:List Nd)(hr:(Xr D t)[s]?=some r) :
 Calls Tryz.prog 150 #[.pointer (some ⟨p,0,none⟩),.int .i64 t,.int .i64 s] w fun e w'=>∃ u,e=.returned (.tuple #[u,.int .i64 0])/\Own9 w' w.heap.size u (Xh (r.map Zs))/\Bl w w':=by
 obtain ⟨g0,g1,A1,va,vb,hm,hf,hc⟩:=h;obtain ⟨c0,c1,c2,c3,c4,f0,f1,f3,f4⟩:=Zy hm;have hal:=Zp ok.a;have htot:=ok.n
 have fin:∀ (g:Nat) (vs:List Value) (rows:List (List Nd)),TabAt tyP w g vs rows->rows[s]?=some r->rows.length<=65536->(∀ r∈rows,∀ x∈r,x.fine tyP)->rows.flatten.length<=1000000->w.cell? ⟨p,t,none⟩=some (.slice (some ⟨g,0,none⟩) rows.length rows.length) ->
  Calls Tryz.prog 150 #[.pointer (some ⟨p,0,none⟩),.int .i64 t,.int .i64 s] w fun e w'=>∃ u,e=.returned (.tuple #[u,.int .i64 0])/\Own9 w' w.heap.size u (Xh (r.map Zs))/\Bl w w':=by
  intro g vs rows hT hrs hlen hfine hfl hcell;have hsl:=(lAb.1 hrs).1;have hlv:s<vs.length:=by rw [hT.len];exact hsl
  have hv:vs[s]?=some vs[s]:=lAa hlv;have hR:=hT.row s _ r hv hrs;have hc2:w.cell? ⟨g,s,none⟩=some vs[s]:=by rw [hT.blk.cell];simp [hlv]
  have hrl:=Gg rows r (lAc hrs);have HKS:=jY (x2w _ r w hR (by omega) (hfine r (lAc hrs)));have hsi:(s:Int)<rows.length:=by omega
  have hli:(rows.length:Int)<=65536:=by omega
  clear hm hf hc c0 c1 c2 c3 c4 f0 f1 f3 f4 hT hR hrs hv htot hal ok hr hfine;generalize vs[s]=v at *;rcases ht with rfl|rfl
  all_goals (
   go_enter Tryz.func150,Tryz.ntmps150
   go_wp2_with fail
   (with_reducible refine HKS.out.mono ?_)
   rintro e w2 ⟨u,rfl,h1,h2⟩;have H1:=jY h1;have H2:=jY h2;clear h1 h2;go_wp2;go_ret2
   exact ⟨_,rfl,H1.out,H2.out⟩)
 rcases ht with rfl|rfl
 ·exact fin g0 va D.a hm.ta hr (by omega) (fun r hr=>ok.fine r (.inl hr)) (by omega) c0
 ·have hb:D.b≠[]:=fun e=>by
   have hr':D.b[s]?=some r:=hr;rw [e] at hr';simp at hr'
  have hbl:=Zp (ok.b hb);rcases hm.tb with ⟨h1,_⟩|⟨_,hA,_,htb⟩
  ·exact absurd h1 hb
  ·rw [hA] at c1;exact fin g1 vb D.b htb hr (by omega) (fun r hr=>ok.fine r (.inr hr)) (by omega) c1
theorem Uk(l:List (List UInt8)):(Xh l).Perm l:=List.mergeSort_perm _ _
theorem Own9.join{W:World}{n0 n1:Nat}{v u:Value}{ks js:List (List UInt8)}(hv:Own9 W n0 v ks)(hu:Own9 W n1 u js)(hl:ks.length+js.length<=1000000)(hn:n0<=W.heap.size) :
 ∃ v' W',(Builtin.append_ #[40,40] 40 #[v,u]).run Tryz.prog W=.ok v' W'/\Own9 W' n0 v' (ks++js)/\W.grownBy W' v.ownBlock:=by
 obtain ⟨i0,hi0,hz0,hz1,hz2⟩:=info_parts x2o;rcases hu.2 with ⟨rfl,h0⟩|⟨g,cap,cur,rfl,_,hgb,h1,h2,h3,h4⟩
 ·have hj:js=[]:=List.eq_nil_of_length_eq_zero h0;subst hj;exact ⟨v,W,run_append_owned_none (P:=Tryz.prog) W n0 40 40 9 i0 1 Tryz.underlying40 hi0 v _ _ hv,by rw [List.append_nil];exact hv,World.grownBy.refl W _⟩
 ·obtain ⟨v',w',hrun,r1,r2,_,_⟩:=run_append_own_at (P:=Tryz.prog) W n0 40 40 9 i0 (.string ⟨#[]⟩) 1 16 Tryz.underlying40 hi0 hz0 hz1 hz2 rfl (by decide) v _ _ hv ⟨g,0,none⟩ js.length cap (js.map encStr) (by simp)
   (hu.cells rfl) (by intro x hx;obtain ⟨b,_,rfl⟩:=List.mem_map.1 hx;rfl) (by unfold maxLen;omega) (by omega) hn
  refine ⟨v',w',hrun,?_,r2⟩;unfold Own9;rw [List.map_append,lAh];exact r1
theorem Zw{P:Program}{w w':World}{ops:Array Oper}{rest:List Oper}{o:Oper}{a:Act}{Q:Exit->Act->World->Prop}{v xv v':Value}(hgd:o.guard=none)(s x:Operand)(t u:TypeId)
 (ho:o.op=Op.call { callee:=Callee.builtin Builtin.append,args:=#[s,x],argTypes:=#[t,u] }) (hs:a.eval s=v) (hx:a.eval x=xv) (hrun:(Builtin.append_ #[t,u] o.type #[v,xv]).run P w=.ok v' w')
 (h:wpList P ops Q rest (a.put o.dst v') w'):wpList P ops Q (o :: rest) a w:=by
 refine wpList_plain hgd fun K hK=>?_;unfold Oper.wp execOp;simp only [ho,resolve,invoke,builtin,Sem.run_bind,Sem.run_pure,Result.andThen_ok,List.map_toArray,List.map_cons,List.map_nil,hs,hx,hrun];exact hK _ _ h
end
def U5(rows:List (List Nd))(s q:Nat):Nat->List (List UInt8)
 | 0=>[]
 | n+1=>U5 rows s q n++Xh ((rows.getD (X7 s (q+n)) []).map Zs)
theorem I1(rows:List (List Nd))(s q:Nat):∀ n,(U5 rows s q n).length<=n*rows.flatten.length
 | 0=>by simp [U5]
 | n+1=>by
   have h1:=I1 rows s q n
   have h2:(Xh ((rows.getD (X7 s (q+n)) []).map Zs)).length<=rows.flatten.length:=by
    rw [(Uk _).length_eq,List.length_map,List.getD_eq_getElem?_getD]
    cases h:rows[X7 s (q+n)]? with
    | none=>simp
    | some r=>exact Gg rows r (lAc h)
   rw [U5,lAh,Nat.add_mul,Nat.one_mul];omega
theorem P7{F:Fence}{n:Nat}{P:Program}{w w':World}{ops:Array Oper}{rest:List Oper}{o:Oper}{a:Act}{Q:Exit->Act->World->Prop}{v xv v':Value}(hgd:o.guard=none)(s x:Operand)(t u:TypeId)
 (ho:o.op=Op.call { callee:=Callee.builtin Builtin.append,args:=#[s,x],argTypes:=#[t,u] }) (hs:a.eval s=v) (hx:a.eval x=xv) (hrun:(Builtin.append_ #[t,u] o.type #[v,xv]).run P w=.ok v' w')
 (h:wpListIn F n P ops Q rest (a.put o.dst v') w'):wpListIn F n P ops Q (o :: rest) a w:=by
 refine wpListIn_plain hgd fun K hK=>?_;unfold Oper.wpIn;refine ⟨by simp [Oper.about,ho,resolve,Target.leads,Sem.run_pure],?_⟩;rw [Oper.semAt_plain F _ _ (by rw [ho];intro c hc';cases hc')];simp [execOp,ho,resolve,invoke,builtin,hs,hx,hrun,Result.andThen];exact hK _ _ h
theorem z8h{β:Type}(B n0:Nat)(v:Value)(l:β->List (List UInt8)):OwnFrom B (fun s W=>Own9 W n0 v (l s)):=fun s X Y row hs hg hr =>
 World.ownsRow.kept hs hg (by
  rcases hs.2 with ⟨rfl,_⟩|⟨g,cap,cur,rfl,_,hgb,_⟩
  ·exact .inl rfl
  ·refine .inr (fun e=>?_);obtain ⟨_,o,ho,hc⟩:=hr g e.symm
   rw [hgb] at ho;cases ho;cases hc)
theorem Own9.mono{W:World}{n0 n1:Nat}{v:Value}{l:List (List UInt8)}(h:Own9 W n0 v l)(hn:n1<=n0):Own9 W n1 v l:=by
 refine ⟨h.1,?_⟩;rcases h.2 with hn|⟨g,cap,cur,rfl,hb',rest⟩
 ·exact .inl hn
 ·exact .inr ⟨g,cap,cur,rfl,lAe hn hb',rest⟩
theorem Own9.put{W:World}{n0 D:Nat}{v:Value}{l:List (List UInt8)}(h:Own9 W n0 v l)(hD:W.heap[D]?=some (.deferred (some []))):Own9 (W.drew.putObj D (.deferred none)) n0 v l :=
 ownsRow_putObj (World.ownsRow.drew h) _ hD rfl
theorem Own9.setCell{W:World}{n0 b:Nat}{v:Value}{l:List (List UInt8)}(h:Own9 W n0 v l)(hb:b<n0)(y:Value):Own9 (W.setCell ⟨b,0,none⟩ y) n0 v l :=
 World.ownsRow.kept h (grownBy_setCell' _ _ _) (.inr fun e=>by
  have:=(World.ownsRow.lt h b e).1
  omega)
theorem x1e{w0 W W6 W7:World}{b b2 n0:Nat}{r v' x0:Value}{l l':List (List UInt8)}(y:Value)(h:Blk W b 40 #[r])(h2:Blk W b2 24 #[x0])(ho:Own9 W n0 r l)(hb6:Bl W W6)
 (hgrow:W6.grownBy W7 r.ownBlock) (ho7:Own9 W7 n0 v' l') (hbn:b<n0) (hbn2:b2<n0) (hne:b≠b2) (hB:Bl w0 W) (hw:w0.heap.size<=b) (hw2:w0.heap.size<=b2) (B:Nat) :
 KeepsFrom B W ((W7.setCell ⟨b,0,none⟩ v').setCell ⟨b2,0,none⟩ y)/\Zc.KeepC Sc.itT [b2] W ((W7.setCell ⟨b,0,none⟩ v').setCell ⟨b2,0,none⟩ y)/\Bl w0 ((W7.setCell ⟨b,0,none⟩ v').setCell ⟨b2,0,none⟩ y) /\
  Blk ((W7.setCell ⟨b,0,none⟩ v').setCell ⟨b2,0,none⟩ y) b 40 #[v']/\Blk ((W7.setCell ⟨b,0,none⟩ v').setCell ⟨b2,0,none⟩ y) b2 24 #[y]/\Own9 ((W7.setCell ⟨b,0,none⟩ v').setCell ⟨b2,0,none⟩ y) n0 v' l' /\
  ∀ k t c,Blk W k t c->k≠b->k≠b2->k<n0->Blk ((W7.setCell ⟨b,0,none⟩ v').setCell ⟨b2,0,none⟩ y) k t c:=by
 have hsw:=hB.size;have ho6:=ho.below hb6
 have key:∀ k t c,Blk W k t c->k<n0->Blk W7 k t c:=fun k t c hk hkn =>
  (hgrow.block k (hk.later hb6).lt (fun e=>by
    have:=(World.ownsRow.lt ho6 k e.symm).1
    omega)).trans (hk.later hb6)
 have h7:=key b 40 _ h hbn;have h27:=key b2 24 _ h2 hbn2;refine ⟨?_,?_,?_,(h7.set 0 v').setOther 0 y hne,(h27.setOther 0 v' hne.symm).set 0 y,(ho7.setCell hbn v').setCell hbn2 y,fun k t c hk n1 n2 n3=>((key k t c hk n3).setOther 0 v' n1).setOther 0 y n2⟩
 ·refine (((KeepsFrom.of_grownBy (row:=none) (Z9 hb6) (fun _ h=>by cases h)).trans ((KeepsOthers.of_grownBy hgrow fun j o ej hj=>?_).from B)).trans ((KeepsOthers.setCell _ _ _).from _)).trans ((KeepsOthers.setCell _ _ _).from _);rcases ho6.2 with ⟨rfl,_⟩|⟨g,cap,cur,rfl,_,hgb,_⟩
  ·simp [Value.ownBlock] at ej
  ·obtain rfl:g=j:=by simpa [Value.ownBlock] using ej
   rw [hgb] at hj;cases hj;rfl
 ·refine (((Zc.KeepC.of_below hb6).trans (Zc.KeepC.of_grownBy hgrow fun k c t ek hk=>?_)).trans (Zc.KeepC.of_grownBy (row:=some b) (grownBy_setCell' _ _ _) fun k c t ek hk=>?_)).trans (Zc.KeepC.set _ b2 0 y (by simp))
  ·rcases ho6.2 with ⟨rfl,_⟩|⟨g,cap,cur,rfl,_,hgb,_⟩
   ·simp [Value.ownBlock] at ek
   ·obtain rfl:g=k:=by simpa [Value.ownBlock] using ek
    rw [hgb] at hk;cases hk;simp [Sc.itT]
  ·cases ek
   rw [show W7.heap[b]?=_ from h7] at hk;cases hk;simp [Sc.itT]
 ·refine (((hB.trans (hb6.mono hsw)).grown hgrow (by have:=hb6.size;omega) fun k ek=>?_).setCell (p:=⟨b,0,none⟩) hw v').setCell (p:=⟨b2,0,none⟩) hw2 y
  have:=(World.ownsRow.lt ho6 k ek).1
  omega
theorem y4b(x:Nat × Nat)(c:Nat)(w:World):Calls Tryz.prog 149 #[M4 x,.int .u32 c] w fun e w' =>
 e=.returned (.func (.func 174) #[] #[.pointer (some ⟨w.heap.size+1,0,none⟩),.pointer (some ⟨w.heap.size,0,none⟩)])/\w'=(w.alloc (Obj.cells #[.int .i64 x.1,.int .i64 x.2] 171)).alloc (Obj.cells #[.int .u32 c] 24):=by
 unfold M4
 go_enter Tryz.func149,Tryz.ntmps149
 go_wp2;go_ret;exact ⟨rfl,rfl⟩
section
variable {S:Nat->Prop} {p seed:Nat} {D:Dc} {w:World}
theorem Cr(h:Rep tyP w p S seed D)(ok:D.Ok tyP)(hn:D.n<=500)(t:Nat)(ht:t=0\/t=1)(s:Nat)(hs:isS (s:Int)=true)(hrows:(Xr D t).length=s)(hs10:s<=1024)
 (c:Nat) (hc:c<4294967296) (g:Nat) (hg:g<4294967296) (q:Nat) (hq:Y1 c / Z8 s=q) (m:Nat) (hm:q+m<s) (hno:∀ i,i<m->X7 s (q+i+1) &&& g≠0) (hyes:X7 s (q+m+1) &&& g=0) (hE:Env w) :
 Calls Tryz.prog 101 #[.pointer (some ⟨p,0,none⟩),M4 (t,s),.int .u32 c,.int .u32 g] w fun e w' =>
  ∃ u,e=.returned (.tuple #[u,.int .u32 (X7 s (q+m+1))])/\Own9 w' w.heap.size u (U5 (Xr D t) s q (m+1))/\Bl w w':=by
 refine (callsIn_wide (n:=6)).1 (callsIn_of_wp_marks Tryz.func101 rfl trivial ?_ rfl);refine wpIn_wide.2 ?_;simp only [Tryz.ntmps101,List.size_toArray,List.length_cons,List.length_nil,Nat.reduceAdd,Nat.reduceSub,Array.replicate_succ,Array.replicate_zero,List.push_toArray,List.append_toArray,List.nil_append,List.cons_append];have HMK:=fun W=>jY (y4b (t,s) c W);unfold M4 at HMK ⊢;simp only at HMK ⊢;have HA:=jY h;have HE:=jY hE;go_wp2;refine wp_scope_straight ?_;go_wp2;refine wp_label ?_;go_wp2_with fail
 (with_reducible refine (HMK _).out.mono ?_)
 rintro e w1 ⟨rfl,rfl⟩;go_wp2;obtain ⟨w1,hw1⟩:∃ w1,(((((((w.alloc (Obj.cells #[Value.pointer (some { block:=p,off:=0 })] 64)).alloc (Obj.cells #[Value.int IntKind.i64 ↑t,Value.int IntKind.i64 ↑s] 171)).alloc (Obj.cells #[Value.int IntKind.u32 ↑g] 24)).alloc (Obj.cells #[Value.slice none 0 0] 40)).alloc (Obj.cells #[Value.int IntKind.u32 0] 24)).alloc (Obj.cells #[Value.int IntKind.i64 ↑t,Value.int IntKind.i64 ↑s] 171)).alloc (Obj.cells #[Value.int IntKind.u32 ↑c] 24))=w1:=⟨_,rfl⟩
 have k0:Blk w1 (w.heap.size) 64 #[Value.pointer (some { block:=p,off:=0 })]:=by
  rw [<- hw1]
  have:=((((((Blk.new w 64 #[Value.pointer (some { block:=p,off:=0 })]).alloc (Obj.cells #[Value.int IntKind.i64 ↑t,Value.int IntKind.i64 ↑s] 171)).alloc (Obj.cells #[Value.int IntKind.u32 ↑g] 24)).alloc (Obj.cells #[Value.slice none 0 0] 40)).alloc (Obj.cells #[Value.int IntKind.u32 0] 24)).alloc (Obj.cells #[Value.int IntKind.i64 ↑t,Value.int IntKind.i64 ↑s] 171)).alloc (Obj.cells #[Value.int IntKind.u32 ↑c] 24)
  (try simp only [World.size_alloc] at this)
  exact this
 have k1:Blk w1 (w.heap.size+1) 171 #[Value.int IntKind.i64 ↑t,Value.int IntKind.i64 ↑s]:=by
  rw [<- hw1]
  have:=(((((Blk.new (w.alloc (Obj.cells #[Value.pointer (some { block:=p,off:=0 })] 64)) 171 #[Value.int IntKind.i64 ↑t,Value.int IntKind.i64 ↑s]).alloc (Obj.cells #[Value.int IntKind.u32 ↑g] 24)).alloc (Obj.cells #[Value.slice none 0 0] 40)).alloc (Obj.cells #[Value.int IntKind.u32 0] 24)).alloc (Obj.cells #[Value.int IntKind.i64 ↑t,Value.int IntKind.i64 ↑s] 171)).alloc (Obj.cells #[Value.int IntKind.u32 ↑c] 24)
  (try simp only [World.size_alloc] at this)
  exact this
 have k2:Blk w1 (w.heap.size+1+1) 24 #[Value.int IntKind.u32 ↑g]:=by
  rw [<- hw1]
  have:=((((Blk.new ((w.alloc (Obj.cells #[Value.pointer (some { block:=p,off:=0 })] 64)).alloc (Obj.cells #[Value.int IntKind.i64 ↑t,Value.int IntKind.i64 ↑s] 171)) 24 #[Value.int IntKind.u32 ↑g]).alloc (Obj.cells #[Value.slice none 0 0] 40)).alloc (Obj.cells #[Value.int IntKind.u32 0] 24)).alloc (Obj.cells #[Value.int IntKind.i64 ↑t,Value.int IntKind.i64 ↑s] 171)).alloc (Obj.cells #[Value.int IntKind.u32 ↑c] 24)
  (try simp only [World.size_alloc] at this)
  exact this
 have k3:Blk w1 (w.heap.size+1+1+1) 40 #[Value.slice none 0 0]:=by
  rw [<- hw1]
  have:=(((Blk.new (((w.alloc (Obj.cells #[Value.pointer (some { block:=p,off:=0 })] 64)).alloc (Obj.cells #[Value.int IntKind.i64 ↑t,Value.int IntKind.i64 ↑s] 171)).alloc (Obj.cells #[Value.int IntKind.u32 ↑g] 24)) 40 #[Value.slice none 0 0]).alloc (Obj.cells #[Value.int IntKind.u32 0] 24)).alloc (Obj.cells #[Value.int IntKind.i64 ↑t,Value.int IntKind.i64 ↑s] 171)).alloc (Obj.cells #[Value.int IntKind.u32 ↑c] 24)
  (try simp only [World.size_alloc] at this)
  exact this
 have k4:Blk w1 (w.heap.size+1+1+1+1) 24 #[Value.int IntKind.u32 0]:=by
  rw [<- hw1]
  have:=((Blk.new ((((w.alloc (Obj.cells #[Value.pointer (some { block:=p,off:=0 })] 64)).alloc (Obj.cells #[Value.int IntKind.i64 ↑t,Value.int IntKind.i64 ↑s] 171)).alloc (Obj.cells #[Value.int IntKind.u32 ↑g] 24)).alloc (Obj.cells #[Value.slice none 0 0] 40)) 24 #[Value.int IntKind.u32 0]).alloc (Obj.cells #[Value.int IntKind.i64 ↑t,Value.int IntKind.i64 ↑s] 171)).alloc (Obj.cells #[Value.int IntKind.u32 ↑c] 24)
  (try simp only [World.size_alloc] at this)
  exact this
 have k5:Blk w1 (w.heap.size+1+1+1+1+1) 171 #[Value.int IntKind.i64 ↑t,Value.int IntKind.i64 ↑s]:=by
  rw [<- hw1]
  have:=(Blk.new (((((w.alloc (Obj.cells #[Value.pointer (some { block:=p,off:=0 })] 64)).alloc (Obj.cells #[Value.int IntKind.i64 ↑t,Value.int IntKind.i64 ↑s] 171)).alloc (Obj.cells #[Value.int IntKind.u32 ↑g] 24)).alloc (Obj.cells #[Value.slice none 0 0] 40)).alloc (Obj.cells #[Value.int IntKind.u32 0] 24)) 171 #[Value.int IntKind.i64 ↑t,Value.int IntKind.i64 ↑s]).alloc (Obj.cells #[Value.int IntKind.u32 ↑c] 24)
  (try simp only [World.size_alloc] at this)
  exact this
 have k6:Blk w1 (w.heap.size+1+1+1+1+1+1) 24 #[Value.int IntKind.u32 ↑c]:=by
  rw [<- hw1]
  have:=Blk.new ((((((w.alloc (Obj.cells #[Value.pointer (some { block:=p,off:=0 })] 64)).alloc (Obj.cells #[Value.int IntKind.i64 ↑t,Value.int IntKind.i64 ↑s] 171)).alloc (Obj.cells #[Value.int IntKind.u32 ↑g] 24)).alloc (Obj.cells #[Value.slice none 0 0] 40)).alloc (Obj.cells #[Value.int IntKind.u32 0] 24)).alloc (Obj.cells #[Value.int IntKind.i64 ↑t,Value.int IntKind.i64 ↑s] 171)) 24 #[Value.int IntKind.u32 ↑c]
  (try simp only [World.size_alloc] at this)
  exact this
 have hb:Bl w w1:=by rw [<- hw1];exact (((((((Below.refl w.heap.size w).alloc (by (try simp only [World.size_alloc]);omega) (Obj.cells #[Value.pointer (some { block:=p,off:=0 })] 64)).alloc (by (try simp only [World.size_alloc]);omega) (Obj.cells #[Value.int IntKind.i64 ↑t,Value.int IntKind.i64 ↑s] 171)).alloc (by (try simp only [World.size_alloc]);omega) (Obj.cells #[Value.int IntKind.u32 ↑g] 24)).alloc (by (try simp only [World.size_alloc]);omega) (Obj.cells #[Value.slice none 0 0] 40)).alloc (by (try simp only [World.size_alloc]);omega) (Obj.cells #[Value.int IntKind.u32 0] 24)).alloc (by (try simp only [World.size_alloc]);omega) (Obj.cells #[Value.int IntKind.i64 ↑t,Value.int IntKind.i64 ↑s] 171)).alloc (by (try simp only [World.size_alloc]);omega) (Obj.cells #[Value.int IntKind.u32 ↑c] 24)
 have hz1:w1.heap.size=w.heap.size+7:=by rw [<- hw1];simp only [World.size_alloc]
 rw [hw1];clear hw1;have hEw:Env w1:=HE.out.below hb;have hseq:=z6w t s hs c hc (w.heap.size+1+1+1+1+1+1) (w.heap.size+1+1+1+1+1) w1 hEw k6 k5 [w.heap.size+1+1+1+1] (by have:=HE.out.lt;simp only [lAg];omega) (by simp only [lAg];omega) (by simp only [lAg];omega);rw [hq] at hseq;have hHS:=fun (W:World) (hb:Bl w W) (x:Nat) (r:List Nd) hr=>jY (y6v (HA.out.later hb) ok (by omega) t ht x r hr)
 refine (wpIn_wide (n:=6)).1 (Zc.Ui (gf:=174) (lb:=#[Value.pointer (some { block:=w.heap.size+1+1+1+1+1+1,off:=0 }),Value.pointer (some { block:=w.heap.size+1+1+1+1+1,off:=0 })]) (encs:=Cy) (xs:=Mu s q) (L:=[w.heap.size+1+1+1+1]) rfl (enters_of Tryz.func174 (by kernel_rfl) rfl) hseq (fun _ _=>rfl)
  (fun i W=>∃ r y,i<=m/\Bl w W/\Blk W (w.heap.size+1+1+1) 40 #[r]/\Blk W (w.heap.size+1+1+1+1) 24 #[y]/\Own9 W (w.heap.size+5) r (U5 (Xr D t) s q i)/\Blk W w.heap.size 64 #[.pointer (some ⟨p,0,none⟩)]/\Blk W (w.heap.size+1) 171 #[.int .i64 t,.int .i64 s]/\Blk W (w.heap.size+1+1) 24 #[.int .u32 g])
  (fun c _ W=>match c with
    | .exit id=>id=0/\∃ r,Bl w W/\Blk W (w.heap.size+1+1+1) 40 #[r]/\Blk W (w.heap.size+1+1+1+1) 24 #[.int .u32 (X7 s (q+m+1))]/\Own9 W (w.heap.size+5) r (U5 (Xr D t) s q (m+1))
    | _=>False)
  ?hI ?hIx ?h0 (fun i x a' W=>a'={ tmps:=#[Value.pointer (some { block:=p,off:=0 }),
   Value.agg #[Value.int IntKind.i64 t,Value.int IntKind.i64 s],Value.int IntKind.u32 c,
   Value.int IntKind.u32 g,Value.pointer (some { block:=w.heap.size,off:=0 }),
   Value.pointer (some { block:=w.heap.size+1,off:=0 }),undef,
   Value.pointer (some { block:=w.heap.size+1+1,off:=0 }),Value.slice none 0 0,
   Value.int IntKind.u32 0,Value.pointer (some { block:=w.heap.size+1+1+1,off:=0 }),
   Value.pointer (some { block:=w.heap.size+1+1+1+1,off:=0 }),.int .i64 x.1,.int .u32 x.2,undef,undef,
   Value.agg #[Value.int IntKind.i64 t,Value.int IntKind.i64 s],Value.int IntKind.u32 c,
   Value.func (Fn.func 174) #[]
    #[Value.pointer (some { block:=w.heap.size+1+1+1+1+1+1,off:=0 }),
      Value.pointer (some { block:=w.heap.size+1+1+1+1+1,off:=0 })],
   .int .i64 x.1,.int .u32 x.2,undef,undef,undef,undef,undef,undef,undef,undef,undef,undef,undef,undef,undef,undef,undef,undef,undef,undef],defers:=[] })
  (fun _ _ _=>Z4 _ _) ?assign ?body ?done ?stop)
 case hI=>exact Zz fun r=>Zz fun y=>(Z4 _ _).and ((Ze _ w (by omega)).and ((Zh _ _ _ _).and ((Zh _ _ _ _).and ((z8h _ _ _ _).and ((Zh _ _ _ _).and ((Zh _ _ _ _).and (Zh _ _ _ _)))))))
 case hIx =>
  intro c
  cases c with
  | exit id=>exact (Z4 _ _).and (Zz fun r=>(Ze _ w (by omega)).and ((Zh _ _ _ _).and ((Zh _ _ _ _).and (z8h _ _ _ _))))
  | _=>exact Z4 _ _
 case h0=>exact ⟨_,_,by omega,hb,k3,k4,World.ownsRow_nil _ _ _ _,k0,k1,k2⟩
 case assign =>
  rintro l i x W K hx' hI hK;unfold Cy;gi_wp2;exact hK _ _ (KeepsFrom.refl _ _) (Zc.KeepC.refl _ _) hI rfl
 case body =>
  rintro l i x a' W hx' ⟨r,y,him,hb',q3,q4,hown,q0,q1,q2⟩ rfl;rw [z2v s q i (by omega)] at hx';obtain rfl:=Option.some.inj hx';have hsl:=Kq s (q+i) hs (by omega);have hnl:=Db s (q+i+1)
  have hkeys:U5 (Xr D t) s q (i+1)=U5 (Xr D t) s q i++Xh ((Xr D t)[X7 s (q+i)]'(by omega) |>.map Zs):=by
   rw [U5,List.getD_eq_getElem?_getD,lAa (by omega)];rfl
  have hBK:=hHS W hb' (X7 s (q+i)) _ (lAa (by omega));have hkl:=I1 (Xr D t) s q (i+1);have hnI:=hno i;generalize (Xr D t)[X7 s (q+i)]'(by omega)=rr at *;obtain ⟨c0,f0⟩:=Z5 q0;have c1:=q1.cell 0;obtain ⟨c2,f2⟩:=Z5 q2;obtain ⟨c3,f3⟩:=Z5 q3;obtain ⟨c4,f4⟩:=Z5 q4;simp at c1;clear hx' hseq k0 k1 k2 k3 k4 k5 k6 hb HMK;generalize hv:X7 s (q+i)=v at *;generalize hd:X7 s (q+i+1)=d at *;have HO:=jY hown;have HKY:=jY hkeys;have HKL:=jY hkl;have HB:=jY hb';have Q3:=jY q3;have Q4:=jY q4;have Q0:=jY q0;have Q1:=jY q1;have Q2:=jY q2;have HHS:=jY hHS;clear hown hkeys hkl hb' q0 q1 q2 q3 q4 hHS
  gi_wp2_with fail
  refine ⟨trivial,(CallsIn.inRound l (callsIn_wide.2 hBK.out)).mono ?_⟩;rintro e W6 ⟨u,rfl,hu,hb6⟩;have hO6:=HO.out.below hb6;have hz6:=hb6.size;have hz0:=HB.out.size;have hz3:=Q4.out.lt;have hz4:=hz1
  obtain ⟨v7,w7,hrun,hO7,hg7⟩:=hO6.join hu (by
   have h1:=HKL.out;have h2:=HKY.out;have h3:=congrArg List.length h2;rw [lAh] at h3
   have h4:(Xr D t).flatten.length<=500:=by
    have h5:=ok.n;rcases ht with rfl|rfl
    ·show D.a.flatten.length<=500;omega
    ·show D.b.flatten.length<=500;omega
   have h6:(i+1)*(Xr D t).flatten.length<=1024*500:=Nat.mul_le_mul (by omega) h4
   omega) (by omega)
  obtain ⟨c36,f36⟩:=Z5 (Q3.out.later hb6);obtain ⟨c46,f46⟩:=Z5 (Q4.out.later hb6);obtain ⟨c26,f26⟩:=Z5 (Q2.out.later hb6);have HU:=jY hu;have HB6:=jY hb6
  obtain ⟨va,vn,vc,rfl⟩:∃ va vn vc,v7=.slice va vn vc:=by
   rcases hO7.2 with ⟨rfl,_⟩|⟨g,cap,cur,rfl,_⟩
   ·exact ⟨_,_,_,rfl⟩
   ·exact ⟨_,_,_,rfl⟩
  have hz7:=hg7.size;have HG7:=jY hg7;have HO7:=jY hO7
  have key:∀ k t c,Blk W k t c->k<w.heap.size+5->Blk w7 k t c:=fun k t c hk hkn =>
   (hg7.block k (hk.later HB6.out).lt (fun e=>by
     have:=(World.ownsRow.lt hO6 k e.symm).1
     omega)).trans (hk.later HB6.out)
  obtain ⟨c37,f37⟩:=Z5 (key _ _ _ Q3.out (by omega));obtain ⟨c47,f47⟩:=Z5 (key _ _ _ Q4.out (by omega));have c27:=(Z5 (((key _ _ _ Q2.out (by omega)).setOther 0 (.slice va vn vc) (show w.heap.size+1+1≠w.heap.size+1+1+1 by omega)).setOther 0 (.int .u32 d) (show w.heap.size+1+1≠w.heap.size+1+1+1+1 by omega))).1;obtain ⟨x1,x2,x3,x4,x5,x6,x7⟩:=x1e (b:=w.heap.size+1+1+1) (b2:=w.heap.size+1+1+1+1) (.int .u32 d) Q3.out Q4.out HO.out HB6.out HG7.out HO7.out (by omega) (by omega) (by omega) HB.out (by omega) (by omega) w1.heap.size;have X0:=jY (x7 _ _ _ Q0.out (by omega) (by omega) (by omega));have X1:=jY (x7 _ _ _ Q1.out (by omega) (by omega) (by omega));have X2:=jY (x7 _ _ _ Q2.out (by omega) (by omega) (by omega));have X:=jY (And.intro x1 (And.intro x2 (And.intro x3 (And.intro x4 (And.intro x5 x6)))));clear c0 f0 c1 c2 f2 c3 f3 c4 f4 hu hb6 key x1 x2 x3 x4 x5 x6 x7 hg7 hO7 hO6 hz6 hz0 hz3 hz7;have hand:=Iy d g hnl hg;rcases Nat.lt_or_ge i m with him2|him2
  ·have hx:=hnI him2;generalize d &&& g=x at *;have hx0:((x:Int)==0)=false:=by simpa using hx
   clear hx hnI hno hyes
   gi_wp2_with (gi_at_builtin;refine P7 rfl _ _ 40 40 rfl rfl rfl hrun ?_)
   obtain ⟨x1,x2,x3,x4,x5,x6⟩:=X.out;refine ⟨x1,x2,_,_,him2,x3,x4,x5,?_,X0.out,X1.out,X2.out⟩;rw [HKY.out];exact x6
  ·obtain rfl:i=m:=by omega
   rw [hd] at hyes;rw [hyes] at hand;clear hnI hno hyes;have HD:=jY hd;clear hd
   gi_wp2_with (gi_at_builtin;refine P7 rfl _ _ 40 40 rfl rfl rfl hrun ?_)
   obtain ⟨x1,x2,x3,x4,x5,x6⟩:=X.out;refine ⟨x1,rfl,_,x3,x4,by rw [HD.out];exact x5,?_⟩;rw [HKY.out];exact x6
 case done =>
  rintro DD W hD ⟨r,y,him,_⟩ hK;rw [z0d] at him;omega
 case stop =>
  rintro DD cc i W hD hI hK
  cases cc with
  | exit id =>
    obtain ⟨rfl,r,hb',q3,q4,hown⟩:=hI;obtain ⟨c3,f3⟩:=Z5 q3;obtain ⟨c4,f4⟩:=Z5 q4;have HO:=jY hown;have HK:=jY hK;have HB:=jY hb';clear hseq hown hK q3 q4 hb' k0 k1 k2 k3 k4 k5 k6 hb;refine wpIn_wide.2 ?_;go_wp2
    go_region
    go_wp2;simp only [Exit.noGoto];exact Y5 (v:=.tuple #[r,.int .u32 (X7 s (q+m+1))]) rfl HK.out (by simp [results,Tryz.results101,go_sem]) ⟨_,rfl,(HO.out.mono (by omega)).put HK.out,Zg HB.out.drew (by omega) _⟩
  | _=>exact hI.elim
end
end Go.Proofs.YtcklcmafohlflaaGreatDoor.Dc.Dt
namespace Go.Proofs.YtcklcmafohlflaaGreatDoor.Dc.Dt
open Zc
open Go.RowKit Go.Shelf
def Cg(G s:Nat):Nat:=(G-1) &&& (4294967295-(s-1))
theorem z0v(a b:Nat)(ha:a<4294967296)(hb:b<4294967296):bits .andNot .u32 (a:Int) (b:Int)=((a &&& (4294967295-b):Nat):Int):=by
 have hx:a &&& (4294967295-b)<4294967296:=Nat.lt_of_le_of_lt Nat.and_le_left ha;unfold bits;show IntKind.u32.wrap ((BitVec.ofInt 32 (a:Int) &&& ~~~ BitVec.ofInt 32 (b:Int)).toNat:Int)=_;rw [BitVec.ofInt_natCast,BitVec.ofInt_natCast,BitVec.toNat_and,BitVec.toNat_not,BitVec.toNat_ofNat,BitVec.toNat_ofNat,Nat.mod_eq_of_lt ha,Nat.mod_eq_of_lt hb,IntKind.wrap_u32];show ((a &&& (4294967295-b):Nat):Int) % 4294967296=_;omega
theorem x3o(G s:Nat)(h:G<=65536):Cg G s<4294967296:=Nat.lt_of_le_of_lt Nat.and_le_left (by omega)
theorem z2h(a b i:Nat)(ha:a<=16)(hb:b<=16):(Cg (2 ^ b) (2 ^ a)).testBit i=(decide (i<b)&&!decide (i<a)):=by
 unfold Cg;have h1:2 ^ a<=2 ^ 16:=Nat.pow_le_pow_right (by decide) ha;have h0:=Nat.two_pow_pos a;have h2:4294967295-(2 ^ a-1)=2 ^ 32-((2 ^ a-1)+1):=by omega
 rw [h2,Nat.testBit_and,Nat.testBit_two_pow_sub_one,Nat.testBit_two_pow_sub_succ (by omega),Nat.testBit_two_pow_sub_one]
 by_cases h3:i<b
 ·have:i<32:=by omega
  simp [h3,this]
 ·simp [h3]
theorem y4y(b j i:Nat)(hb:b<=16)(hi:i<b):(X7 (2 ^ b) j).testBit i=j.testBit (b-1-i):=by
 unfold X7;rw [Uz b (by omega),Ug _ _ (by omega),show (4294967296:Nat)=2 ^ 32 from rfl,Nat.testBit_mod_two_pow,<- Nat.shiftLeft_eq,Nat.testBit_shiftLeft];have h1:31-i<32:=by omega
 have h2:32-b<=31-i:=by omega
 rw [show 31-i-(32-b)=b-1-i by omega];simp [h1,h2]
theorem z2i(a b j:Nat)(hab:a<=b)(hb:b<=16):X7 (2 ^ b) j &&& Cg (2 ^ b) (2 ^ a)=0↔j % 2 ^ (b-a)=0:=by
 constructor
 ·intro h
  apply Nat.eq_of_testBit_eq
  intro i;rw [Nat.testBit_mod_two_pow,Nat.zero_testBit]
  by_cases hi:i<b-a
  ·have h2:=congrArg (fun x=>x.testBit (b-1-i)) h;simp only [Nat.testBit_and,Nat.zero_testBit] at h2;rw [z2h a b _ (by omega) hb,y4y b j _ hb (by omega),show b-1-(b-1-i)=i by omega] at h2;have h3:b-1-i<b:=by omega
   have h4:¬ b-1-i<a:=by omega
   simp only [h3,h4,decide_true,decide_false,Bool.not_false,Bool.and_true] at h2;simp [h2]
  ·simp [hi]
 ·intro h
  apply Nat.eq_of_testBit_eq
  intro i;rw [Nat.testBit_and,Nat.zero_testBit,z2h a b _ (by omega) hb]
  by_cases h3:i<b
  ·by_cases h4:i<a
   ·simp [h4]
   ·rw [y4y b j _ hb h3];have h5:=congrArg (fun x=>x.testBit (b-1-i)) h;simp only [Nat.testBit_mod_two_pow,Nat.zero_testBit] at h5;have h6:b-1-i<b-a:=by omega
    simp only [h6,decide_true,Bool.true_and] at h5;simp [h5]
  ·simp [h3]
def U8(G s:Nat):Nat:=G / s
def Kb(G s q:Nat):Nat:=U8 G s-1-q % U8 G s
theorem Kx(s G:Nat)(hs:isS (s:Int)=true)(hG:isS (G:Int)=true)(hle:s<=G)(P:Nat)(hP:P<4294967296) :
 (P / Z8 G) / U8 G s=P / Z8 s/\P / Z8 G+Kb G s (P / Z8 G)<G/\(∀ i,i<Kb G s (P / Z8 G)->X7 G (P / Z8 G+i+1) &&& Cg G s≠0)/\X7 G (P / Z8 G+Kb G s (P / Z8 G)+1) &&& Cg G s=0 /\
   X7 G (P / Z8 G+Kb G s (P / Z8 G)+1)=X7 s (P / Z8 s+1)/\0<U8 G s/\P / Z8 G+Kb G s (P / Z8 G)+1=(P / Z8 s+1)*U8 G s:=by
 obtain ⟨a,ha,ha2,rfl⟩:=O0 hs;obtain ⟨b,hb,hb2,rfl⟩:=O0 hG;have hab:a<=b:=(Nat.pow_le_pow_iff_right (by decide)).1 hle;have hr:U8 (2 ^ b) (2 ^ a)=2 ^ (b-a):=by unfold U8;rw [Nat.pow_div hab (by decide)]
 have hrp:0<2 ^ (b-a):=Nat.two_pow_pos _;have hu:Z8 (2 ^ a)=Z8 (2 ^ b)*2 ^ (b-a):=by rw [Uz a (by omega),Uz b (by omega),<- Nat.pow_add];congr 1;omega
 have hup:0<Z8 (2 ^ b):=by rw [Uz b (by omega)];exact Nat.two_pow_pos _
 have hq:P / Z8 (2 ^ b)<2 ^ b:=by
  have:Y1 (Y1 P)=P:=U3 P hP
  have h2:=Ms (2 ^ b) (Y1 P) hG (V1 P hP)
  rwa [this] at h2
 have hdiv:(P / Z8 (2 ^ b)) / 2 ^ (b-a)=P / Z8 (2 ^ a):=by rw [Nat.div_div_eq_div_mul,hu]
 generalize hQ:P / Z8 (2 ^ b)=q at *;unfold Kb;rw [hr];have h1:q=2 ^ (b-a)*(q / 2 ^ (b-a))+q % 2 ^ (b-a):=(Nat.div_add_mod q _).symm;have h2:q % 2 ^ (b-a)<2 ^ (b-a):=Nat.mod_lt _ hrp
 have hend:q+(2 ^ (b-a)-1-q % 2 ^ (b-a))+1=(P / Z8 (2 ^ a)+1)*2 ^ (b-a):=by
  rw [<- hdiv,Nat.add_mul,Nat.one_mul,Nat.mul_comm (q / 2 ^ (b-a))];omega
 have hqs:P / Z8 (2 ^ a)<2 ^ a:=by
  have:Y1 (Y1 P)=P:=U3 P hP
  have h2:=Ms (2 ^ a) (Y1 P) hs (V1 P hP)
  rwa [this] at h2
 have hlim:(P / Z8 (2 ^ a)+1)*2 ^ (b-a)<=2 ^ b:=by
  have:2 ^ b=2 ^ a*2 ^ (b-a):=by rw [<- Nat.pow_add];congr 1;omega
  rw [this];exact Nat.mul_le_mul_right _ hqs
 refine ⟨hdiv,by omega,fun i hi h3=>?_,?_,?_,hrp,hend⟩
 ·have h4:=(z2i a b _ hab hb2).1 h3
  have h5:(q+i+1) % 2 ^ (b-a)=q % 2 ^ (b-a)+i+1:=by
   conv=>lhs;rw [h1]
   rw [show 2 ^ (b-a)*(q / 2 ^ (b-a))+q % 2 ^ (b-a)+i+1=(q % 2 ^ (b-a)+i+1)+2 ^ (b-a)*(q / 2 ^ (b-a)) by omega,Nat.add_mul_mod_self_left];exact Nat.mod_eq_of_lt (by omega)
  omega
 ·refine (z2i a b _ hab hb2).2 ?_;rw [hend];exact Nat.mul_mod_left _ _
 ·rw [hend];unfold X7;rw [hu,Nat.mul_assoc,Nat.mul_comm (2 ^ (b-a)) (Z8 (2 ^ b))]
end Go.Proofs.YtcklcmafohlflaaGreatDoor.Dc.Dt
namespace Go.Proofs.YtcklcmafohlflaaGreatDoor.Dc.Dt
open Zc
open Go.RowKit Go.Shelf Go.Sort
attribute [local go_sem] Oper.semAt_some
def _root_.Go.Proofs.YtcklcmafohlflaaGreatDoor.Dc.Dc.least(D:Dc):Nat:=(Y3 D.a.length D.b.length).2
def Py(D:Dc)(P:Nat):List (List UInt8) :=
 U5 (Xr D (Y3 D.a.length D.b.length).1) D.least (P / Z8 D.least) 1 ++
  if D.b=[] then [] else U5 (Xr D (Zl D.a.length D.b.length).1) (Zl D.a.length D.b.length).2 (P / Z8 (Zl D.a.length D.b.length).2) (Kb (Zl D.a.length D.b.length).2 D.least (P / Z8 (Zl D.a.length D.b.length).2)+1)
theorem Vj{D:Dc}(ok:D.Ok tyP)(x:Nat × Nat)(h:x=Y3 D.a.length D.b.length\/x=Zl D.a.length D.b.length)(ha:D.a.length<=1024)(hb:D.b.length<=1024) :
 (x.1=0\/x.1=1)/\isS (x.2:Int)=true/\(Xr D x.1).length=x.2/\x.2<=1024:=by
 have hal:=Zp ok.a
 have key:x=(0,D.a.length)\/(D.b≠[]/\x=(1,D.b.length)):=by
  have hb0:D.b.length=0↔D.b=[]:=List.length_eq_zero_iff;rcases h with rfl|rfl
  ·unfold Y3
   split
   ·exact .inl rfl
   ·rename_i h1;exact .inr ⟨fun e=>h1 (.inl (hb0.2 e)),rfl⟩
  ·unfold Zl
   split
   ·exact .inl rfl
   ·rename_i h1;exact .inr ⟨fun e=>h1 (.inl (hb0.2 e)),rfl⟩
 rcases key with rfl|⟨h1,rfl⟩
 ·exact ⟨.inl rfl,ok.a,rfl,ha⟩
 ·exact ⟨.inr rfl,ok.b h1,rfl,hb⟩
theorem z3g(A B:Nat):(Y3 A B).2<=(Zl A B).2:=by
 unfold Y3 Zl
 split <;> split <;> simp only <;> omega
theorem x0d{A B:Nat}(hB:0<B):(Y3 A B).1≠(Zl A B).1:=by
 unfold Y3 Zl
 split <;> split <;> simp only <;> omega
theorem x0c{A:Nat}:Zl A 0=Y3 A 0:=by
 unfold Y3 Zl;rw [if_pos (.inl rfl),if_pos (.inl rfl)]
theorem x5q(p c A B At:Nat)(sa sb:Nat)(nx:Nat)(KS:List (List UInt8))(w:World)
 (HSZ:Hid (Calls Tryz.prog 78 #[.pointer (some ⟨p,0,none⟩)] w fun e w'=>e=.returned (.tuple #[.int .i64 A,.int .i64 B,.int .i64 At])/\Bl w w'))
 (HOR:∀ g W,Blk W g 3 #[.int .i64 A,.int .i64 B]->Hid (Calls Tryz.prog 100 #[.slice (some ⟨g,0,none⟩) 2 2] W fun e w'=>e=.returned (.tuple #[M4 (sa,sb),M4 (sa,sb)])/\Bl W w'))
 (HST:∀ W,Bl w W->Hid (Calls Tryz.prog 101 #[.pointer (some ⟨p,0,none⟩),M4 (sa,sb),.int .u32 c,.int .u32 0] W fun e w'=>∃ u,e=.returned (.tuple #[u,.int .u32 nx])/\Own9 w' W.heap.size u KS/\Bl W w')) :
 Calls Tryz.prog 72 #[.pointer (some ⟨p,0,none⟩),.int .u32 c] w fun e w'=>∃ u,e=.returned (.tuple #[u,.int .u32 nx])/\Own9 w' w.heap.size u KS/\Bl w w':=by
 unfold M4 at HOR HST;simp only at HOR HST
 go_enter Tryz.func72,Tryz.ntmps72
 go_wp2_with fail
 (with_reducible refine HSZ.out.mono ?_)
 rintro e w1 ⟨rfl,hb1⟩;go_wp2_with fail
 (with_reducible refine (HOR _ _ (Blk.new w1 3 #[.int .i64 A,.int .i64 B])).out.mono ?_)
 rintro e w2 ⟨rfl,hb2⟩;have hb3:=hb1.trans (((Below.refl w1.heap.size w1).alloc (lAd _) (Obj.cells #[Value.int IntKind.i64 A,Value.int IntKind.i64 B] 3)).trans (hb2.mono (by simp)) |>.mono hb1.size);have HB3:=jY hb3;clear hb1 hb2 hb3
 go_upto_region 3 with fail
 have k9:=(Blk.new w2 171 #[Value.int IntKind.i64 sa,Value.int IntKind.i64 sb]).alloc (Obj.cells #[Value.int IntKind.i64 sa,Value.int IntKind.i64 sb] 171);have k10:=Blk.new (w2.alloc (Obj.cells #[Value.int IntKind.i64 sa,Value.int IntKind.i64 sb] 171)) 171 #[Value.int IntKind.i64 sa,Value.int IntKind.i64 sb];rw [World.size_alloc] at k10;have hb4:=(HB3.out.alloc HB3.out.size (Obj.cells #[Value.int IntKind.i64 sa,Value.int IntKind.i64 sb] 171)).alloc (by have:=HB3.out.size;simp;omega) (Obj.cells #[Value.int IntKind.i64 sa,Value.int IntKind.i64 sb] 171);have hz2:=HB3.out.size;generalize ((w2.alloc (Obj.cells #[Value.int IntKind.i64 sa,Value.int IntKind.i64 sb] 171)).alloc (Obj.cells #[Value.int IntKind.i64 sa,Value.int IntKind.i64 sb] 171))=w3 at *;have s0:=k9.cell 0;have s1:=k9.cell 1;have g0:=k10.cell 0;have g1:=k10.cell 1;simp at s0 s1 g0 g1;have HST3:=HST w3 hb4;have K9:=jY k9;have K10:=jY k10;have HB4:=jY hb4;clear k9 k10 hb4;go_wp2_with fail
 (with_reducible refine HST3.out.mono ?_)
 rintro e w4 ⟨u,rfl,hO,hb5⟩;have hb6:=HB4.out.trans (hb5.mono HB4.out.size);have K9b:=K9.out.later hb5;have K10b:=K10.out.later hb5;have t0:=K9b.cell 0;have t1:=K9b.cell 1;have y0:=K10b.cell 0;have y1:=K10b.cell 1;simp at t0 t1 y0 y1;have HO:=jY hO;have HB6:=jY hb6;have hz3:=HB4.out.size;have hz9:=hb5.size;have K9c:=jY K9b;have K10c:=jY K10b;clear hO hb5 hb6 K9b K10b s0 s1 g0 g1;go_wp2;go_ret2;exact ⟨_,rfl,HO.out.mono hz3,HB6.out⟩
theorem x5r(p c A B At:Nat)(sa sb ga gb:Nat)(hne:sa≠ga)(nx M:Nat)(KS KG:List (List UInt8))(hlen:KS.length+KG.length<=1000000)(w:World)
 (HSZ:Hid (Calls Tryz.prog 78 #[.pointer (some ⟨p,0,none⟩)] w fun e w'=>e=.returned (.tuple #[.int .i64 A,.int .i64 B,.int .i64 At])/\Bl w w'))
 (HOR:∀ g W,Blk W g 3 #[.int .i64 A,.int .i64 B]->Hid (Calls Tryz.prog 100 #[.slice (some ⟨g,0,none⟩) 2 2] W fun e w'=>e=.returned (.tuple #[M4 (sa,sb),M4 (ga,gb)])/\Bl W w'))
 (HST:∀ W,Bl w W->Hid (Calls Tryz.prog 101 #[.pointer (some ⟨p,0,none⟩),M4 (sa,sb),.int .u32 c,.int .u32 0] W fun e w'=>∃ u,e=.returned (.tuple #[u,.int .u32 nx])/\Own9 w' W.heap.size u KS/\Bl W w'))
 (HDS:∀ W,Hid (Calls Tryz.prog 102 #[M4 (sa,sb)] W fun e w'=>e=.returned (.int .u32 (sb-1:Nat))/\Bl W w'))
 (HDG:∀ W,Hid (Calls Tryz.prog 102 #[M4 (ga,gb)] W fun e w'=>e=.returned (.int .u32 (gb-1:Nat))/\Bl W w'))
 (HM:bits .andNot .u32 ((gb-1:Nat):Int) ((sb-1:Nat):Int)=(M:Nat))
 (HGT:∀ W,Bl w W->Hid (Calls Tryz.prog 101 #[.pointer (some ⟨p,0,none⟩),M4 (ga,gb),.int .u32 c,.int .u32 M] W fun e w'=>∃ u,e=.returned (.tuple #[u,.int .u32 nx])/\Own9 w' W.heap.size u KG/\Bl W w')) :
 Calls Tryz.prog 72 #[.pointer (some ⟨p,0,none⟩),.int .u32 c] w fun e w'=>∃ u,e=.returned (.tuple #[u,.int .u32 nx])/\Own9 w' w.heap.size u (KS++KG)/\Bl w w':=by
 unfold M4 at HOR HST HDS HDG HGT;simp only at HOR HST HDS HDG HGT;have hn1:((ga:Int)==(sa:Int))=false:=by simp;omega
 have hn2:¬ (ga:Int)=(sa:Int):=by omega
 generalize gb-1=gd at *;generalize sb-1=sd at *
 go_enter Tryz.func72,Tryz.ntmps72
 go_wp2_with fail
 (with_reducible refine HSZ.out.mono ?_)
 rintro e w1 ⟨rfl,hb1⟩;go_wp2_with fail
 (with_reducible refine (HOR _ _ (Blk.new w1 3 #[.int .i64 A,.int .i64 B])).out.mono ?_)
 rintro e w2 ⟨rfl,hb2⟩;have hb3:=hb1.trans (((Below.refl w1.heap.size w1).alloc (lAd _) (Obj.cells #[Value.int IntKind.i64 A,Value.int IntKind.i64 B] 3)).trans (hb2.mono (by simp)) |>.mono hb1.size);have HB3:=jY hb3;clear hb1 hb2 hb3
 go_upto_region 3 with fail
 have k9:=(Blk.new w2 171 #[Value.int IntKind.i64 sa,Value.int IntKind.i64 sb]).alloc (Obj.cells #[Value.int IntKind.i64 ga,Value.int IntKind.i64 gb] 171);have k10:=Blk.new (w2.alloc (Obj.cells #[Value.int IntKind.i64 sa,Value.int IntKind.i64 sb] 171)) 171 #[Value.int IntKind.i64 ga,Value.int IntKind.i64 gb];rw [World.size_alloc] at k10;have hb4:=(HB3.out.alloc HB3.out.size (Obj.cells #[Value.int IntKind.i64 sa,Value.int IntKind.i64 sb] 171)).alloc (by have:=HB3.out.size;simp;omega) (Obj.cells #[Value.int IntKind.i64 ga,Value.int IntKind.i64 gb] 171);have hz2:=HB3.out.size;generalize ((w2.alloc (Obj.cells #[Value.int IntKind.i64 sa,Value.int IntKind.i64 sb] 171)).alloc (Obj.cells #[Value.int IntKind.i64 ga,Value.int IntKind.i64 gb] 171))=w3 at *;have s0:=k9.cell 0;have s1:=k9.cell 1;have g0:=k10.cell 0;have g1:=k10.cell 1;simp at s0 s1 g0 g1;have HST3:=HST w3 hb4;have K9:=jY k9;have K10:=jY k10;have HB4:=jY hb4;clear k9 k10 hb4;go_wp2_with fail
 (with_reducible refine HST3.out.mono ?_)
 rintro e w4 ⟨u,rfl,hO,hb5⟩;have hb6:=HB4.out.trans (hb5.mono HB4.out.size);have K9b:=K9.out.later hb5;have K10b:=K10.out.later hb5;have t0:=K9b.cell 0;have t1:=K9b.cell 1;have y0:=K10b.cell 0;have y1:=K10b.cell 1;simp at t0 t1 y0 y1;have HO:=jY hO;have HB6:=jY hb6;have hz3:=HB4.out.size;have hz9:=hb5.size;have K9c:=jY K9b;have K10c:=jY K10b;clear hO hb5 hb6 K9b K10b s0 s1 g0 g1
 go_upto_region 6 with fail
 have D0:Bl w4 w4.drew:=(Below.refl _ _).drew
 have HKS:∀ W,Bl w4 W->Hid (W.cell? ⟨w2.heap.size,0,none⟩=some (.int .i64 sa)/\W.cell? ⟨w2.heap.size,1,none⟩=some (.int .i64 sb)/\W.cell? ⟨w2.heap.size+1,0,none⟩=some (.int .i64 ga)/\W.cell? ⟨w2.heap.size+1,1,none⟩=some (.int .i64 gb)) :=
  fun W hb=>jY ⟨(K9c.out.later hb).cell 0,(K9c.out.later hb).cell 1,(K10c.out.later hb).cell 0,(K10c.out.later hb).cell 1⟩
 clear t0 t1 y0 y1;obtain ⟨i0,i1,i2,i3⟩:=(HKS _ D0).out
 go_region_law (go_simp;first
  | (go_at_call 102;(with_reducible refine (HDG _).out.mono ?_);rintro e w5 ⟨rfl,hb5⟩;have D5:Bl w4 w5:=D0.trans (hb5.mono D0.size);obtain ⟨i0,i1,i2,i3⟩:=(HKS _ D5).out)
  | (go_at_call 102;(with_reducible refine (HDS _).out.mono ?_);rintro e w6 ⟨rfl,hb6⟩;have D6:Bl w4 w6:=D5.trans (hb6.mono D5.size);obtain ⟨i0,i1,i2,i3⟩:=(HKS _ D6).out)
  | (go_at_call 101;(with_reducible refine (HGT _ (HB6.out.trans (D6.mono HB6.out.size))).out.mono ?_);rintro e w7 ⟨v,rfl,hv,hb7⟩))
 all_goals (
  have D7:Bl w4 w7:=D6.trans (hb7.mono D6.size);have hO7:=HO.out.below D7;have hz4:=HB6.out.size;have hz7:=D7.size;obtain ⟨z8,w8,hrun,hO8,hg8⟩:=hO7.join hv hlen (by omega);have hb8:Bl w w8:=(HB6.out.trans (D7.mono HB6.out.size)).grown hg8 (by omega) (fun k e=>by have:=(World.ownsRow.lt hO7 k e).1;omega);have HO8:=jY hO8;have HB8:=jY hb8;clear hb8 hO8 hg8 hO7 D7 D6 D5 D0 hv hb7 HKS HST HGT HDS HDG HOR HSZ
  go_wp2_with (at_builtin;refine Zw rfl _ _ 40 40 rfl rfl rfl hrun ?_)
  go_ret2
  exact ⟨_,rfl,HO8.out.mono hz3,HB8.out⟩)
section
variable {S:Nat->Prop} {p seed:Nat} {D:Dc} {w:World}
theorem x5p(h:Rep tyP w p S seed D)(ok:D.Ok tyP)(hn:D.n<=500)(ha:D.a.length<=1024)(hb:D.b.length<=1024)(c:Nat)(hc:c<4294967296)(hE:Env w) :
 Calls Tryz.prog 72 #[.pointer (some ⟨p,0,none⟩),.int .u32 c] w fun e w' =>
  ∃ u,e=.returned (.tuple #[u,.int .u32 (Fc c D.least)])/\Own9 w' w.heap.size u (Py D (Y1 c))/\Bl w w':=by
 have hal:=Zp ok.a;have hab0:D.a.length=0->D.b.length=0:=fun e=>by omega
 have HSZ:=jY (z9o h);have HOR:=fun g W hk=>jY (z8f D.a.length D.b.length (by omega) (by omega) hab0 g W hk);obtain ⟨s1,s2,s3,s4⟩:=Vj ok (Y3 D.a.length D.b.length) (.inl rfl) ha hb;obtain ⟨g1,g2,g3,g4⟩:=Vj ok (Zl D.a.length D.b.length) (.inr rfl) ha hb;have hle:=z3g D.a.length D.b.length;have hP:=V1 c hc;have hq:=Ms _ c s2 hc;have HST:=fun W (hb:Bl w W)=>jY (Cr (h.later hb) ok hn (Y3 D.a.length D.b.length).1 s1 (Y3 D.a.length D.b.length).2 s2 s3 s4 c hc 0 (by decide) _ rfl 0 (by omega) (fun i hi=>by omega) (by simp) (hE.below hb));obtain ⟨e1,e2,e3,e4,e5,e6,e7⟩:=Kx _ _ s2 g2 hle (Y1 c) hP;have HGT:=fun W (hb:Bl w W)=>jY (Cr (h.later hb) ok hn (Zl D.a.length D.b.length).1 g1 (Zl D.a.length D.b.length).2 g2 g3 g4 c hc (Cg (Zl D.a.length D.b.length).2 (Y3 D.a.length D.b.length).2) (x3o _ _ (by omega)) _ rfl _ e2 e3 e4 (hE.below hb));have HM:bits .andNot .u32 (((Zl D.a.length D.b.length).2-1:Nat):Int) (((Y3 D.a.length D.b.length).2-1:Nat):Int)=(Cg (Zl D.a.length D.b.length).2 (Y3 D.a.length D.b.length).2:Nat):=z0v _ _ (by omega) (by omega);have HDS:=fun W=>jY (A3 (Y3 D.a.length D.b.length) (by have:=Zp s2;omega) (by omega) W);have HDG:=fun W=>jY (A3 (Zl D.a.length D.b.length) (by have:=Zp g2;omega) (by omega) W)
 have htot:∀ t,(Xr D t).flatten.length<=500:=fun t=>by
  have h5:=ok.n;unfold Xr
  split <;> omega
 have hL:(U5 (Xr D (Y3 D.a.length D.b.length).1) D.least (Y1 c / Z8 D.least) 1).length<=500:=by
  have h1:=I1 (Xr D (Y3 D.a.length D.b.length).1) D.least (Y1 c / Z8 D.least) 1;have h2:=htot (Y3 D.a.length D.b.length).1;omega
 have hLG:(U5 (Xr D (Zl D.a.length D.b.length).1) (Zl D.a.length D.b.length).2 (Y1 c / Z8 (Zl D.a.length D.b.length).2) (Kb (Zl D.a.length D.b.length).2 D.least (Y1 c / Z8 (Zl D.a.length D.b.length).2)+1)).length<=1024*500 :=
  lAe (I1 _ _ _ _) (Nat.mul_le_mul (lAe (Nat.succ_le_of_lt (Nat.lt_of_le_of_lt (Nat.le_add_left _ _) e2)) g4) (htot _))
 rw [e5] at HGT;unfold Py
 by_cases hb0:D.b=[]
 ·rw [if_pos hb0,List.append_nil];have hsg:Zl D.a.length D.b.length=Y3 D.a.length D.b.length:=by rw [hb0];exact x0c
  rw [hsg] at HOR;exact x5q p c D.a.length D.b.length D.place _ _ _ _ w HSZ HOR HST
 ·rw [if_neg hb0];exact x5r p c D.a.length D.b.length D.place _ _ _ _ (x0d (List.length_pos_iff.2 hb0)) _ _ _ _ (by omega) w HSZ HOR HST HDS HDG HM HGT
end
end Go.Proofs.YtcklcmafohlflaaGreatDoor.Dc.Dt

/- Texts of one kind in one: ZBytes, ZSee, SpSum, SpSize, SpRefMake, SpRefTidy. -/
import Derived.Test.YtcklcmafohlflaaGreatDoorQSpRef34
set_option maxRecDepth 200000
set_option maxHeartbeats 8000000
namespace Go.Proofs.YtcklcmafohlflaaGreatDoor
open Zc (Ent Ext KeepC Ym Z9 Zg Xg Zx Zb Zv Yo Y5 Ze Zz Z4 Zd)
open Go.RowKit Go.Shelf Sk
attribute [local go_sem] Oper.semAt_some
def szL:List En->Nat
 | []=>0
 | e :: r=>64+2*e.1.size+szL r
theorem y4k(a b:List En):szL (a++b)=szL a+szL b:=by
 induction a with
 | nil=>simp [szL]
 | cons e r ih=>simp only [List.cons_append,szL,ih];omega
theorem z9z{E:List En}{i:Nat}{x:En}(h:E[i]?=some x):szL (E.take (i+1))=szL (E.take i)+(64+2*x.1.size):=by
 obtain ⟨hi,he⟩:=lAb.1 h;rw [lAf hi,y4k,he];simp [szL]
theorem x6f{E:List En}(h:∀ e∈E,e.1.size<=64):szL E<=192*E.length:=by
 induction E with
 | nil=>simp [szL]
 | cons e r ih =>
   have h1:=h e (by simp);have h2:=ih fun e he=>h e (by simp [he]);simp only [szL,List.length_cons];omega
variable {w w' w1 w2:World} {s b l p q sd c:Nat} {D D1:Nat->Prop} {L L1:List Nd} {m:ByteArray->Option Int} {n:Dc.Sh} {le lm:Int} {E:List En}
theorem y0p(fv:Nat)(E:List En)(hl:E.length<=1000000)(hz:∀ e∈E,e.1.size<=64)(w:World)(HT:∀ W,Bl w W->Hid (Calls Tryz.prog 139 #[.iface 160 (.pointer (some ⟨fv,0,none⟩))] W (v3h W E))) :
 Calls Tryz.prog 294 #[.pointer (some ⟨fv,0,none⟩)] w fun e w'=>e=.returned (.int .i64 (szL E))/\Bl w w':=by
 refine (callsIn_wide (n:=6)).1 (callsIn_of_wp_marks Tryz.func294 rfl trivial ?_ rfl);refine wpIn_wide.2 ?_;simp only [Tryz.ntmps294,List.size_toArray,List.length_cons,List.length_nil,Nat.reduceAdd,Nat.reduceSub,Array.replicate_succ,Array.replicate_zero,List.push_toArray,List.append_toArray,List.nil_append,List.cons_append];have hB0:Bl w (w.alloc (Obj.cells #[Value.int .i64 0] 3)):=Z0 _ _;have k0:=Blk.new w 3 #[Value.int .i64 0];have HTA:=HT _ hB0;go_wp2_with fail;have hsz:(w.alloc (Obj.cells #[Value.int .i64 0] 3)).heap.size=w.heap.size+1:=by simp
 generalize w.alloc (Obj.cells #[Value.int .i64 0] 3)=w1 at *;refine HTA.out.mono ?_;rintro e w2 ⟨bx,r,rfl,hbx,hbs,hr,hb2⟩;have k0:=k0.later hb2;have hB:=hB0.trans (hb2.mono hB0.size);have hseq:=x6w E (by omega) r w1.heap.size bx [w.heap.size] w2 hr (by intro k hk;simp at hk;omega) hbx;have hz2:=hb2.size;have HZ:=jY hz;have HLL:=jY (show ∀ i,szL (E.take i)<=192*E.length from fun i=>lAe (x6f fun e he=>hz e (List.mem_of_mem_take he)) (by simp only [List.length_take];omega));clear HT HTA hB0 hr hbx hz;go_wp2_with fail
 refine (wpIn_wide (n:=6)).1 (Zc.Ui (gf:=182) (lb:=#[.pointer (some ⟨bx,0,none⟩)]) (encs:=x7t) (xs:=E) (L:=[w.heap.size]) rfl (enters_of Tryz.func182 (by kernel_rfl) rfl) hseq (fun _ _=>rfl)
  (fun i W=>Bl w W/\Blk W w.heap.size 3 #[.int .i64 (szL (E.take i))])
  (fun _ _ _=>False)
  ?hI ?hIx ?h0 (fun i x a' W=>∃ q,(∃ u,a'={ tmps:=#[.pointer (some ⟨fv,0,none⟩),undef,.int .i64 0,.pointer (some ⟨w.heap.size,0,none⟩),.pointer (some ⟨q,0,none⟩),.pointer (some ⟨fv,0,none⟩),.iface 160 (.pointer (some ⟨fv,0,none⟩)),
   .func (.func 182) #[] #[.pointer (some ⟨bx,0,none⟩)],u,undef,undef,undef,undef,undef,undef,undef,undef],defers:=[] })/\Blk W q 94 #[.string x.1,.int .i64 x.2])
  (fun _ _ _=>Zz fun _=>(Z4 _ _).and (Zh _ _ _ _)) ?assign ?body ?done ?stop)
 case hI=>exact (Ze _ w (by omega)).and (Zh _ _ _ _)
 case hIx=>exact fun c=>Z4 _ _
 case h0=>exact ⟨hB,k0⟩
 case assign =>
  rintro l i ⟨xm,xs⟩ W K hx' ⟨hb,q0⟩ hK;clear hseq;unfold x7t;gi_wp2;refine hK _ _ ((KeepsOthers.alloc _ _).from _) (Zc.KeepC.of_below ((Below.refl _ _).alloc (lAd _) _)) ⟨hb.alloc hb.size _,q0.alloc _⟩ ⟨_,⟨_,rfl⟩,Blk.new _ _ _⟩
 case body =>
  rintro l i ⟨xm,xs⟩ a' W hx' ⟨hb,q0⟩ ⟨q,⟨u,rfl⟩,q6⟩;clear hseq;simp only at q6;have hxm:xm.size<=64:=HZ.out _ (lAc hx');have hst:=z9z hx';have hle:=HLL.out i;simp only at hst;obtain ⟨c1,c2⟩:=Z5 q0;obtain ⟨d0,d1,_⟩:=Za q6;have Q0:=jY q0;have HB:=jY hb;have HST:=jY hst;generalize szL (E.take i)=k at *;clear q0 q6 hx' hb hst;gi_wp2;refine ⟨(KeepsOthers.setCell _ _ _).from _,Zc.KeepC.set _ _ _ _ (by simp),HB.out.setCell (p:=⟨w.heap.size,0,none⟩) (lAd _) _,?_⟩;rw [HST.out]
  have:=Q0.out.set 0 (.int .i64 ((k+(64+2*xm.size):Nat):Int))
  simp only [Int.natCast_add,Int.natCast_mul] at this ⊢;exact this
 case done =>
  rintro D W hD ⟨hb,q0⟩ hK;rw [List.take_length] at q0;clear hseq;obtain ⟨c1,c2⟩:=Z5 q0;have HK:=jY hK;have HB:=jY hb;clear hK q0 hb;simp only [Exit.inBlock,Exit.then];go_wp2;exact Zc.Y5 (v:=.int .i64 (szL E)) rfl HK.out (by simp [results,Tryz.results294,go_sem]) ⟨rfl,Zg HB.out (by omega) _⟩
 case stop =>
  rintro D c j W hD hI hK;exact hI.elim
theorem x7h(h:LSet w s l p q D L m n le lm sd c E):Calls Tryz.prog 42 #[.pointer (some ⟨s,0,none⟩)] w fun e w'=>e=.returned (.int .i64 (szL E))/\Bl w w':=by
 obtain ⟨⟨e0,_⟩,_⟩:=Zm h.blk;have hlen:=h.len;have hln:=h.lenN;have HB:=jY (y0p l E (by omega) (fun e he=>(h.good.each e he).1) w fun W hb=>jY (by have:=v1s (h.li.later hb) hln;rw [h.en] at this;exact this));clear h
 go_enter Tryz.func42,Tryz.ntmps42
 go_wp2_with fail;refine HB.out.mono ?_;rintro e w1 ⟨rfl,hb⟩;go_wp2_with fail;go_ret;exact ⟨rfl,hb⟩
def szS(isL:Bool)(E:List En):Nat:=if isL then szL E else (Pk.Y9 E).size
theorem y9m{S:Nat->Prop}{isL:Bool}(h:SetIs w s S isL le lm c E):Calls Tryz.prog 42 #[.pointer (some ⟨s,0,none⟩)] w fun e w'=>e=.returned (.int .i64 (szS isL E))/\Bl w w':=by
 obtain ⟨sd,⟨rfl,b,h,_⟩|⟨rfl,l,p,q,D,L,m,n,h,_⟩⟩:=h
 ·exact (x7i h).mono fun _ _ ⟨he,hb⟩=>⟨he,by rw [hb];exact Below.refl _ _⟩
 ·exact x7h h
theorem x6g{E:List En}{i:Nat}{x:En}(h:E[i]?=some x):(Pk.Y9 (E.take (i+1))).size=(Pk.Y9 (E.take i)).size+(10+x.1.size):=by
 obtain ⟨hi,he⟩:=lAb.1 h;rw [Pk.Pt,Pk.Pt,lAf hi,List.flatMap_append,lAh,he];simp only [List.flatMap_cons,List.flatMap_nil,List.append_nil,Pk.Vn];omega
theorem x6i{isL:Bool}{E:List En}{i:Nat}{x:En}(h:E[i]?=some x):szS isL (E.take (i+1))=szS isL (E.take i)+(if isL then 64+2*x.1.size else 10+x.1.size):=by
 unfold szS
 cases isL
 ·simpa using x6g h
 ·simpa using z9z h
theorem x6h{isL:Bool}{E:List En}(hE:E.length<=1000)(hz:∀ e∈E,e.1.size<=64)(i:Nat):szS isL (E.take i)<=200000:=by
 have hz2:∀ e∈E.take i,e.1.size<=64:=fun e he=>hz e (List.mem_of_mem_take he);have hl:(E.take i).length<=1000:=by simp;omega
 unfold szS
 split
 ·have:=x6f hz2;omega
 ·have:=Pk.Mx hz2 hl;omega
theorem x6j(isL:Bool):szS isL []=if isL then 0 else 2:=by cases isL <;> rfl
theorem y8u{w:World}{r:Nat}{E:List En}{le lm:Int}{isL:Bool}(h:RefC w r E le lm isL)(hE:E.length<=1000)(hz:∀ e∈E,e.1.size<=64) :
 Calls Tryz.prog 44 #[.pointer (some ⟨r,0,none⟩)] w fun e w'=>e=.returned (.int .i64 (szS isL E))/\w'=w:=by
 obtain ⟨a,c,hk,hc,hr⟩:=h.ex;obtain ⟨⟨c0,c1,c2,c3⟩,f0⟩:=Zm hk;have HR:=jY hr;have HT:=jY (fun i x (h:E[i]?=some x)=>x6i (isL:=isL) h);have HLE:=jY (x6h (isL:=isL) hE hz);have HZ:=jY hz;have HALL:=jY (show szS isL (E.take E.length)=szS isL E by rw [List.take_length]);have HZERO:=jY (x6j isL);clear hk hr h hz
 cases isL
 all_goals
  go_enter Tryz.func44,Tryz.ntmps44
  go_wp2
  go_loopw [3,4] (fun n i wr=>∃ (k:Nat),i=.int .i64 k/\k<=E.length/\n=.int .i64 (szS _ (E.take k):Nat)/\wr=w) (fun _ i _=>E.length-(intOf i).toNat)
  case atStart=>exact ⟨0,rfl,by omega,by rw [List.take_zero,HZERO.out];rfl,rfl⟩
  case round =>
   obtain ⟨k,rfl,hk,rfl,rfl⟩:=hrel;have hle:=HLE.out k
   by_cases hlt:k<E.length
   ·have hx:E[k]?=some E[k]:=lAa hlt;have HST:=jY (HT.out k _ hx);have hxm:=HZ.out _ (List.getElem_mem hlt);generalize E[k]=x at *;obtain ⟨b,off,c',e1,g0,g1⟩:=Xo HR.out hx
    injection e1 with e1 _ e2
    subst e1;subst e2;have hk2:(k:Int)<E.length:=by omega
    generalize szS _ (E.take k)=n at *;clear hx;go_wp2
    go_roundw
    case rel=>exact ⟨k+1,by go_num,hlt,by rw [HST.out];simp;omega,trivial⟩
    case measure=>simp [intOf];omega
   ·obtain rfl:k=E.length:=by omega
    have hk2:¬ (E.length:Int)<E.length:=by omega
    rw [HALL.out] at *;go_wp2;go_ret;exact ⟨rfl,rfl⟩
def szI(x:It):List Nat:=[48,x.key.size,szS x.isL x.E]
def Vu(I:List It):List Nat:=64 :: I.flatMap szI
def F2(n:Nat):Value:=.int .i64 n
def V8(I:List It):Nat:=(Vu I).sum
theorem v3n:(Tryz.prog.info? 3).map (fun i=>(i.zero,i.size,i.bytes))=some (some (.int .i64 0),1,8):=by kernel_rfl
theorem z1z{W W':World}{n0 n:Nat}{rv:Value}{xs:List Value}(h:W.ownsRow n0 3 1 rv n xs)(hb:∀ k,rv.ownBlock=some k->W'.heap[k]?=W.heap[k]?):W'.ownsRow n0 3 1 rv n xs:=by
 refine ⟨h.1,?_⟩;rcases h.2 with hn|⟨g,cap,cur,rfl,hb',hg,rest⟩
 ·exact .inl hn
 ·exact .inr ⟨g,cap,cur,rfl,hb',(hb g rfl).trans hg,rest⟩
theorem Ml{W W':World}{n0 n:Nat}{rv:Value}{xs:List Value}(h:W.ownsRow n0 3 1 rv n xs)(hb:Bl W W'):W'.ownsRow n0 3 1 rv n xs:=z1z h fun k hk=>hb.block k (h.lt k hk).2
theorem F4{W:World}{n0 n:Nat}{rv:Value}{xs:List Value}(h:W.ownsRow n0 3 1 rv n xs){k:Nat}(hk:rv.ownBlock=some k):∃ c,Blk W k 3 c:=by
 rcases h.2 with ⟨rfl,_⟩|⟨g,cap,cur,rfl,_,hg,_⟩
 ·simp [Value.ownBlock] at hk
 ·simp [Value.ownBlock] at hk;subst hk;exact ⟨cur,hg⟩
theorem x1g{W W6:World}{n0 n:Nat}{rv:Value}{xs:List Value}(hr:W.ownsRow n0 3 1 rv n xs)(hb:Bl W W6)(a b c:Int)(hn:n<=1000000)(h0:n0<=W.heap.size) :
 ∃ gg cap' W7,(Builtin.append_ #[80,80] 80 #[rv,.slice (some ⟨W6.heap.size,0,none⟩) 3 3]).run Tryz.prog (W6.alloc (.cells #[.int .i64 a,.int .i64 b,.int .i64 c] 3))=.ok (.slice (some ⟨gg,0,none⟩) (n+3) cap') W7 /\
  W7.ownsRow n0 3 1 (.slice (some ⟨gg,0,none⟩) (n+3) cap') (n+3) (xs++[.int .i64 a,.int .i64 b,.int .i64 c])/\(W6.alloc (.cells #[.int .i64 a,.int .i64 b,.int .i64 c] 3)).grownBy W7 rv.ownBlock:=by
 obtain ⟨i0,hi0,hz0,hz1,hz2⟩:=info_parts v3n;have hB:Bl W (W6.alloc (.cells #[.int .i64 a,.int .i64 b,.int .i64 c] 3)):=hb.trans ((Z0 W6 _).mono hb.size)
 obtain ⟨v',w',hrun,r1,r2,r3,r4⟩:=run_append_own_at (P:=Tryz.prog) (W6.alloc (.cells #[.int .i64 a,.int .i64 b,.int .i64 c] 3)) n0 80 80 3 i0 _ 1 8 Tryz.underlying80 hi0 hz0 hz1 hz2 rfl (by decide) rv _ _ (Ml hr hB) ⟨W6.heap.size,0,none⟩ 3 3 [.int .i64 a,.int .i64 b,.int .i64 c] rfl
  (World.news_of_block (cs:=#[.int .i64 a,.int .i64 b,.int .i64 c]) (t:=3) (fr:=(0,0)) (heap_alloc_new _ _)) (fun u hu=>by simp at hu;rcases hu with rfl|rfl|rfl <;> rfl) (by unfold maxLen;omega) (by omega) (lAe h0 hB.size)
 rcases r1.2 with ⟨rfl,h0⟩|⟨gg,cap',cur,rfl,_⟩
 ·omega
 ·exact ⟨gg,cap',w',hrun,r1,r2⟩
theorem y4h:∀ (l:List Nat) (b:Nat),(∀ x∈l,x<=b)->∀ k,(l.take k).sum<=b*l.length
 | [],b,_,k=>by simp
 | x :: l,b,h,0=>by simp
 | x :: l,b,h,k+1=>by
   have h1:=y4h l b (fun y hy=>h y (by simp [hy])) k;have h2:=h x (by simp);rw [List.take_succ_cons,List.sum_cons,List.length_cons,Nat.mul_succ];omega
theorem Bp{n0:Nat}(l:List Nat)(hl:l.length<=100000)(hb:∀ x∈l,x<=1000000)(rv:Value)(w:World)(hr:w.ownsRow n0 3 1 rv l.length (l.map F2)) :
 Calls Tryz.prog 43 #[rv] w fun e w'=>e=.returned (.int .i64 (l.sum:Nat))/\w'=w:=by
 have hform:∃ A cap,rv=.slice A l.length cap/\∀ i x,l[i]?=some x->∃ g,A=some ⟨g,0,none⟩/\w.cell? ⟨g,i,none⟩=some (F2 x):=by
  have hO:=hr;rcases hr.2 with ⟨rfl,h0⟩|⟨g,cap,cur,rfl,_,hg,hlc,hm,_⟩
  ·have:l=[]:=List.eq_nil_of_length_eq_zero h0
   subst this;exact ⟨none,0,rfl,fun i x hx=>by simp at hx⟩
  ·refine ⟨some ⟨g,0,none⟩,cap,rfl,fun i x hx=>⟨g,rfl,?_⟩⟩;obtain ⟨hi,_⟩:=lAb.1 hx;rw [World.ownsRow.cellAt (base:=n0) (e:=3) (size:=1) (g:=g) (n:=l.length) (cap:=cap) (xs:=l.map F2) hO i (by omega),List.getElem?_map,hx];rfl
 obtain ⟨A,cap,rfl,hc⟩:=hform;have HC:=jY hc;have HS:=jY (fun k=>y4h l 1000000 hb k)
 have HT:=jY (fun k x (h:l[k]?=some x)=>show (l.take (k+1)).sum=(l.take k).sum+x from by
  obtain ⟨hk,he⟩:=lAb.1 h;rw [lAf hk,List.sum_append,he]
  simp)
 have HALL:=jY (show (l.take l.length).sum=l.sum by rw [List.take_length]);clear hc hb hr
 go_enter Tryz.func43,Tryz.ntmps43
 go_wp2
 go_loopw [3,8] (fun s i wr=>∃ (k:Nat),i=.int .i64 k/\k<=l.length/\s=.int .i64 ((l.take k).sum:Nat)/\wr=w) (fun _ i _=>l.length-(intOf i).toNat)
 case atStart=>exact ⟨0,rfl,by omega,rfl,rfl⟩
 case round =>
  obtain ⟨k,rfl,hk,rfl,rfl⟩:=hrel;have hle:=HS.out k
  by_cases hlt:k<l.length
  ·have hx:l[k]?=some l[k]:=lAa hlt;have hle2:=HS.out (k+1);have hst:=HT.out k _ hx;rw [hst] at hle2;have HST:=jY hst;obtain ⟨g,rfl,g0⟩:=HC.out k _ hx;unfold F2 at g0;generalize l[k]=x at *;generalize (l.take k).sum=m at *;have hk2:(k:Int)<l.length:=by omega
   clear hx hst;go_wp2_with fail;exact ⟨⟨k+1,by go_num,hlt,by rw [HST.out];simp,trivial⟩,by simp [intOf];omega⟩
  ·obtain rfl:k=l.length:=by omega
   rw [HALL.out] at *;go_wp2;go_ret;exact ⟨rfl,rfl⟩
theorem Pb{P:Program}{o:Oper}{a:Act}{w w':World}{K:Act->World->Prop}{Q:Exit->Act->World->Prop}{v xv v':Value}(s x:Operand)(t u:TypeId)
 (ho:o.op=Op.call { callee:=Callee.builtin Builtin.append,args:=#[s,x],argTypes:=#[t,u] }) (hs:a.eval s=v) (hx:a.eval x=xv) (hrun:(Builtin.append_ #[t,u] o.type #[v,xv]).run P w=.ok v' w')
 (h:K (a.put o.dst v') w'):o.wp P a w K Q:=by
 unfold Oper.wp;simp [execOp,ho,resolve,invoke,builtin,hs,hx,hrun,Result.andThen];exact h
theorem x6e{x:It}(h1:x.key.size<=64)(h2:x.E.length<=1000)(h3:∀ e∈x.E,e.1.size<=64):∀ n∈szI x,n<=1000000:=by
 intro n hn;unfold szI at hn;simp only [List.mem_cons,List.not_mem_nil,or_false] at hn;rcases hn with rfl|rfl|rfl
 ·omega
 ·omega
 ·have:=x6h (isL:=x.isL) h2 h3 x.E.length
  rw [List.take_length] at this;omega
theorem y4j{L:List Th}{i:Nat}{t:Th}(h:L[i]?=some t):Vu (itl (L.take (i+1)))=Vu (itl (L.take i))++szI t.toIt:=by
 obtain ⟨hi,he⟩:=lAb.1 h;unfold Vu itl;rw [lAf hi,he,List.map_append,List.flatMap_append];simp
theorem Ca(L:List Th):(Vu (itl L)).length=1+3*L.length:=by
 unfold Vu itl
 induction L with
 | nil=>rfl
 | cons a r ih =>
   simp only [List.map_cons,List.flatMap_cons,List.length_cons,lAh] at ih ⊢;simp only [szI,List.length_cons,List.length_nil];omega
theorem Yr{P:Program}{md:Region.Mode}{ops:Array Oper}{Q:Exit->Act->World->Prop}{S:World->Prop}{fuel:Nat}{l:Array Bool}{i:Nat}{o:Oper}{a:Act}{w:World}(ho:ops[i]?=some o)(hw:Region.wanted o (yielded ops a.tmps)=true)
 (h:∀ K':Act->World->Prop,(∀ a' w',S w'->wpAnyH P md ops Q S fuel l a' w'->K' a' w')->o.wp P a w K' Q):wpOp P ops Q i (fun a' w'=>S w'/\wpAnyH P md ops Q S fuel l a' w') a w:=by
 unfold wpOp;simp only [ho];rw [if_pos hw];exact .inl (h _ fun _ _ h1 h2=>⟨h1,h2⟩)
def z3l(w:World)(B F:Nat)(L:List Th)(i:Nat)(W W':World):Prop:=KeepsFrom B W W'/\Zc.KeepC Zr.itT [F] W W'/\∃ rv,Bl w W'/\Blk W' F 80 #[rv]/\W'.ownsRow w.heap.size 3 1 rv (Vu (itl (L.take (i+1)))).length ((Vu (itl (L.take (i+1)))).map F2)
def v0r(F:Nat)(t:Th)(a:Act):Prop:=∃ u0 u1 u2 u6 u7 u8 u9 u10 u11 u12 u13 u14 u15 u16 u17 u18 u19 u20 u21 u22 u23 u24,a={ tmps:=#[u0,u1,u2,.pointer (some ⟨F,0,none⟩),.string t.key,Yv t,u6,u7,u8,u9,u10,u11,u12,u13,u14,u15,u16,u17,u18,u19,u20,u21,u22,u23,u24],defers:=[] }
section
variable {w:World} {p c sd:Nat} {S:Nat->Prop} {en mn:Int} {L:List Th}
theorem y6k(h:SpSt w p en mn sd c L S)(hc:c<=1000):Calls Tryz.prog 8 #[.pointer (some ⟨p,0,none⟩)] w fun e w'=>e=.returned (.int .i64 (V8 (itl L):Nat))/\Bl w w':=by
 have hlen:=h.len;have HA:=fun W=>jY (Ba p W);have HH:=jY h
 have HSM:=jY (fun rv W (hr:W.ownsRow w.heap.size 3 1 rv (Vu (itl L)).length ((Vu (itl L)).map F2))=>Bp (Vu (itl L)) (by rw [Ca];omega) (fun x hx=>by
  unfold Vu at hx;rcases List.mem_cons.1 hx with rfl|hx
  ·omega
  ·obtain ⟨y,hy,hx⟩:=List.mem_flatMap.1 hx;obtain ⟨t,ht,rfl⟩:=List.mem_map.1 hy;obtain ⟨d,SD,rv,sh,g,_⟩:=h;have hg:=(g.set t ht).good
   exact x6e (g.ksz t ht) (lAe hg.len hc) (fun e he=>(hg.each e he).1) x hx) rv W hr)
 clear h;refine (callsIn_wide (n:=6)).1 (callsIn_of_wp_marks Tryz.func8 rfl trivial ?_ rfl);refine wpIn_wide.2 ?_;simp only [Tryz.ntmps8,List.size_toArray,List.length_cons,List.length_nil,Nat.reduceAdd,Nat.reduceSub,Array.replicate_succ,Array.replicate_zero,List.push_toArray,List.append_toArray,List.nil_append,List.cons_append];obtain ⟨F,hF⟩:∃ F,F=w.heap.size+1:=⟨_,rfl⟩;have hb1:=Z0 w (.cells #[.int .i64 64] 3);have hb2:=hb1.trans ((Z0 (w.alloc (.cells #[.int .i64 64] 3)) (.cells #[.slice (some ⟨w.heap.size,0,none⟩) 1 1] 80)).mono hb1.size)
 have kF:Blk ((w.alloc (.cells #[.int .i64 64] 3)).alloc (.cells #[.slice (some ⟨w.heap.size,0,none⟩) 1 1] 80)) F 80 #[.slice (some ⟨w.heap.size,0,none⟩) 1 1]:=by
  have:=Blk.new (w.alloc (.cells #[.int .i64 64] 3)) 80 #[.slice (some ⟨w.heap.size,0,none⟩) 1 1]
  rw [World.size_alloc,<- hF] at this;exact this
 have hr0:((w.alloc (.cells #[.int .i64 64] 3)).alloc (.cells #[.slice (some ⟨w.heap.size,0,none⟩) 1 1] 80)).ownsRow w.heap.size 3 1 (.slice (some ⟨w.heap.size,0,none⟩) 1 1) 1 [F2 64] :=
  ⟨rfl,.inr ⟨w.heap.size,1,#[F2 64],rfl,lAd _,(Blk.new w 3 #[F2 64]).alloc _,lAd _,by decide,rfl,rfl⟩⟩
 go_wp2_with fail;generalize (w.alloc (.cells #[.int .i64 64] 3)).alloc (.cells #[.slice (some ⟨w.heap.size,0,none⟩) 1 1] 80)=w2 at *;rw [<- hF];refine (HA _).out.mono ?_;rintro e w3 ⟨bx,rfl,hbx,hbl,hb3⟩;have hB3:=hb2.trans (hb3.mono hb2.size);have kF3:=kF.later hb3;have hr3:=Ml hr0 hb3
 have hseq:Zc.Cv Zr.itT Tryz.prog 71 #[.pointer (some ⟨bx,0,none⟩)] Cy L [F] w3:=by
  obtain ⟨d,SD,rv,sh,g,_,_,hS⟩:=HH.out;have g3:=g.later hB3
  exact y4x L (by omega) rv p d sd en mn bx [F] w3 hbx g3.blk g3.row g3.th (fun j hj e=>by
   obtain rfl:j=F:=by simpa using hj
   have:=g.lt (.inr (.inl e));omega) (fun j hj t ht e=>by
   obtain rfl:j=F:=by simpa using hj
   have:=g.lt (.inr (.inr (.inr ⟨t,ht,.inl e.symm⟩)));omega)
 have HLE:=jY hlen;have HFL:=jY hF;clear hbx hbl hb3 hb1 hb2 hr0 kF HA hF hlen;go_wp2_with fail
 refine (wpIn_wide (n:=6)).1 (Zc.Ui (gf:=71) (lb:=#[.pointer (some ⟨bx,0,none⟩)]) (encs:=Cy) (xs:=L) (L:=[F]) rfl (enters_of Tryz.func71 (by kernel_rfl) rfl) hseq (fun _ _=>rfl)
  (fun i W=>∃ rv,Bl w W/\Blk W F 80 #[rv]/\W.ownsRow w.heap.size 3 1 rv (Vu (itl (L.take i))).length ((Vu (itl (L.take i))).map F2))
  (fun _ _ _=>False)
  ?hI ?hIx ?h0 (fun _ t a' _=>v0r F t a') (fun _ _ _=>Z4 _ _) ?assign ?body ?done ?stop)
 case hI=>exact Zz fun rv=>(Ze _ w (by have:=hB3.size;omega)).and ((Zh _ _ _ _).and (z5d _ _ _ _ _))
 case hIx=>exact fun c=>Z4 _ _
 case h0=>exact ⟨_,hB3,kF3,hr3⟩
 case assign =>
  rintro l i t W K hx' hI hK;clear hseq;unfold Cy;gi_wp2;exact hK _ _ ⟨lAd _,fun _ _ _ h _=>h⟩ (Zc.KeepC.refl _ _) hI ⟨_,_,_,_,_,_,_,_,_,_,_,_,_,_,_,_,_,_,_,_,_,_,rfl⟩
 case body =>
  rintro l i t a' W hx' ⟨rv,hb,q0,hr⟩ ⟨u0,u1,u2,u6,u7,u8,u9,u10,u11,u12,u13,u14,u15,u16,u17,u18,u19,u20,u21,u22,u23,u24,rfl⟩;clear hseq;have ht:=lAc hx';have hd:Bl w W.drew:=hb.drew;obtain ⟨hq,hset⟩:=(HH.out.later hd).th ht;have HBY:=jY (y9m hset);have hst:=y4j hx'
  have hlen:(Vu (itl (L.take i))).length<=100000:=by
   rw [Ca,List.length_take]
   have:=HLE.out;omega
  have hmx:Tryz.prog.follows .mixedOrders=true:=by kernel_rfl
  have hFlt:=hq.lt;have S0:W.drew.cell? ⟨t.q,0,none⟩=some (.pointer (some ⟨t.s,0,none⟩)):=by have:=hq.cell 0;simpa [thC] using this
  have d0:W.drew.cell? ⟨F,0,none⟩=some rv:=q0.drew.cell 0;have hne:t.q≠F:=fun e=>by rw [e] at hq;exact absurd (hq.ty q0.drew) (by decide)
  have hro:∀ k,rv.ownBlock=some k->k≠F/\k≠t.q:=fun k hk=>by
   obtain ⟨cc,hc⟩:=F4 hr hk;exact ⟨fun e=>by rw [e] at hc;exact absurd (hc.ty q0) (by decide),fun e=>by rw [e] at hc;exact absurd (hc.ty (show Blk W t.q Uy _ from hq)) (by decide)⟩
  have HRUN:=jY (fun w5 (hb5:Below W.drew.heap.size W.drew w5)=>show
   Hid (w5.cell? ⟨t.q,0,none⟩=some (.pointer (some ⟨t.s,0,none⟩)))/\Hid (w5.cell? ⟨F,0,none⟩=some rv) /\
   Hid ((w5.alloc (.cells #[.int .i64 48,.int .i64 t.key.size,.int .i64 (szS t.isL t.E)] 3)).cell? ⟨t.q,0,none⟩=some (.pointer (some ⟨t.s,0,none⟩)))/\Hid ((w5.alloc (.cells #[.int .i64 48,.int .i64 t.key.size,.int .i64 (szS t.isL t.E)] 3)).cell? ⟨F,0,none⟩=some rv) /\
   ∃ gg cap' W7,(Builtin.append_ #[80,80] 80 #[rv,.slice (some ⟨w5.heap.size,0,none⟩) 3 3]).run Tryz.prog (w5.alloc (.cells #[.int .i64 48,.int .i64 t.key.size,.int .i64 (szS t.isL t.E)] 3))=.ok (.slice (some ⟨gg,0,none⟩) ((Vu (itl (L.take i))).length+3) cap') W7 /\
    Hid (z3l w w3.heap.size F L i W (W7.setCell ⟨F,0,none⟩ (.slice (some ⟨gg,0,none⟩) ((Vu (itl (L.take i))).length+3) cap')))/\W7.cell? ⟨F,0,none⟩=some rv/\W7.frozen? ⟨F,0,none⟩=false /\
    Hid (W7.cell? ⟨t.q,0,none⟩=some (.pointer (some ⟨t.s,0,none⟩)))/\Hid ((W7.setCell ⟨F,0,none⟩ (.slice (some ⟨gg,0,none⟩) ((Vu (itl (L.take i))).length+3) cap')).cell? ⟨t.q,0,none⟩=some (.pointer (some ⟨t.s,0,none⟩))) from by
   have hb5':Bl W w5:=(Below.refl W.heap.size W).drew.trans hb5;obtain ⟨gg,cap',W7,hrun,hr7,hg7⟩:=x1g hr hb5' 48 t.key.size (szS t.isL t.E) (by omega) hb.size;have hb6:=hb5'.trans ((Z0 w5 (.cells #[.int .i64 48,.int .i64 t.key.size,.int .i64 (szS t.isL t.E)] 3)).mono hb5'.size);have k5:=hq.later hb5;have kF5:=q0.later hb5';have kF6:=q0.later hb6;have k6:=k5.alloc (.cells #[.int .i64 48,.int .i64 t.key.size,.int .i64 (szS t.isL t.E)] 3);have kF7:Blk W7 F 80 #[rv]:=(hg7.block F kF6.lt fun e=>(hro F e.symm).1 rfl).trans kF6;have k7:Blk W7 t.q Uy (thC t.s t.toIt):=(hg7.block t.q k6.lt fun e=>(hro t.q e.symm).2 rfl).trans k6;have cq:∀ {V:World},Blk V t.q Uy (thC t.s t.toIt)->V.cell? ⟨t.q,0,none⟩=some (.pointer (some ⟨t.s,0,none⟩)):=fun h=>by have:=h.cell 0;simpa [thC] using this
   refine ⟨jY (cq k5),jY (kF5.cell 0),jY (cq k6),jY (kF6.cell 0),gg,cap',W7,hrun,jY ?_,kF7.cell 0,kF7.free 0,jY (cq k7),jY (cq (k7.setOther 0 _ hne))⟩;have hgb:Bl w W7:=(hb.trans (hb6.mono hb.size)).grown hg7 (lAe hb.size hb6.size) fun k e=>(hr.lt k e).1
   refine ⟨(KeepsFrom.of_grownBy (row:=none) (Z9 hb6) fun _ h=>by cases h).trans ((show KeepsFrom w3.heap.size _ W7 from ⟨hg7.size,fun k o hk ho hcc=>(hg7.block k (Array.getElem?_eq_some_iff.1 ho).1 fun e=>?_).trans ho⟩).trans ((KeepsOthers.setCell _ _ _).from _)),
    (Zc.KeepC.of_below hb6).trans ((Zc.KeepC.of_grownBy hg7 fun k cc ty e hk=>?_).trans (Zc.KeepC.set _ _ _ _ (by simp))),_,hgb.setCell (p:=⟨F,0,none⟩) (by have:=HFL.out;simp only;omega) _,kF7.set 0 _,?_⟩
   ·obtain ⟨cc,hc6⟩:=F4 (Ml hr hb6) e.symm;rw [show (w5.alloc _).heap[k]?=_ from hc6] at ho
    cases ho
    cases hcc
   ·obtain ⟨c2,hc6⟩:=F4 (Ml hr hb6) e;rw [show (w5.alloc _).heap[k]?=_ from hc6] at hk
    cases hk
    unfold Zr.itT
    decide
   ·rw [hst,lAh,List.map_append]
    exact z1z hr7 fun k hk=>Below.heap_setCell _ _ _ _ fun e=>by
     obtain ⟨cc,hc7⟩:=F4 hr7 hk;rw [show k=F from e] at hc7
     exact absurd (hc7.ty kF7) (by decide))
  clear hx' hb q0 hr ht hd hq hset hst hlen hFlt hne hro;unfold Yv
  gi_wp2_with fail
  refine wpIn_mono (Q:=fun (e:Exit) (_:Act) W'=>e=.normal/\z3l w w3.heap.size F L i W W') ?_ ?_
  ·have hL:¬ LetsOut (fun (e:Exit) (_:Act) W'=>e=.normal/\z3l w w3.heap.size F L i W W'):=fun ⟨_,_,h⟩=>by cases h.1
   refine wpIn_region_any hmx (Sched.K7 (by kernel_rfl) hL _ _ _ _ (wpAny_of_held (S:=fun V=>V.cell? ⟨t.q,0,none⟩=some (.pointer (some ⟨t.s,0,none⟩))) _ _ _ _ ?_));change wpAnyH _ _ _ _ _ _ _ _ (World.drew _);refine wpAnyH_take (i:=1) (v:=.string t.key) rfl (by kernel_rfl) (by decide +kernel) (by decide +kernel) (fun _ _ _ h=>h) (.inl ⟨by rfl,fun W' hS=>by go_simp⟩) S0 ?_;simp only [Act.put,List.setIfInBounds_toArray];refine wpAnyH_take (i:=2) (v:=.int .i64 t.key.size) rfl (by kernel_rfl) (by decide +kernel) (by decide +kernel) (fun _ _ _ h=>h) (.inl ⟨by rfl,fun W' hS=>by go_simp⟩) S0 ?_;simp only [Act.put];refine wpAnyH_take (i:=3) (v:=.pointer (some ⟨t.q,0,none⟩)) rfl (by kernel_rfl) (by decide +kernel) (by decide +kernel) (fun _ _ _ h=>h) (.inl ⟨by rfl,fun W' hS=>by go_simp⟩) S0 ?_;simp only [Act.put];refine wpAnyH_take (i:=4) (v:=.pointer (some ⟨t.q,0,none⟩)) rfl (by kernel_rfl) (by decide +kernel) (by decide +kernel) (fun _ _ _ h=>h) (.inl ⟨by rfl,fun W' hS=>by go_simp⟩) S0 ?_;simp only [Act.put];refine wpAnyH_take (i:=5) (v:=.pointer (some ⟨t.q,0,none⟩)) rfl (by kernel_rfl) (by decide +kernel) (by decide +kernel) (fun _ _ _ h=>h) (.inl ⟨by rfl,fun W' hS=>by go_simp⟩) S0 ?_;simp only [Act.put];refine wpAnyH_take (i:=6) (v:=.pointer (some ⟨t.s,0,none⟩)) rfl (by kernel_rfl) (by decide +kernel) (by decide +kernel) (fun _ _ _ h=>h) (.inl ⟨by rfl,fun W' hS=>by go_simp⟩) S0 ?_;simp only [Act.put];refine wpAnyH_all (rs:=[0,7]) (by decide +kernel) (by simp) ?_;intro i hi;simp only [List.mem_cons,List.not_mem_nil,or_false] at hi;rcases hi with rfl|rfl
   ·refine Yr rfl (by rfl) fun K' hK=>?_
    go_simp
    refine hK _ _ (by first|exact S0|exact HS5.out|exact HS6.out) ?_;clear hK K';refine wpAnyH_all (rs:=[7]) (by decide +kernel) (by simp) ?_;intro i hi;rw [lAg] at hi;subst hi;refine Yr rfl (by rfl) fun K' hK=>?_
    go_simp
    go_at_call 42
    refine HBY.out.mono ?_;rintro e w5 ⟨rfl,hb5⟩;obtain ⟨HS5,HF5,HS6,HF6,gg,cap',W7,hrun,HEND,c7,f7,HS7,HS8⟩:=HRUN.out w5 hb5;have c5:=HF5.out;have c6:=HF6.out;clear hb5 HRUN HBY;refine hK _ _ HS5.out ?_;clear hK K';refine wpAnyH_all (rs:=[8]) (by decide +kernel) (by simp) ?_;intro i hi;rw [lAg] at hi;subst hi;refine Yr rfl (by rfl) fun K' hK=>?_
    go_simp
    refine hK _ _ HS6.out ?_;clear hK K';refine wpAnyH_all (rs:=[9]) (by decide +kernel) (by simp) ?_;intro i hi;rw [lAg] at hi;subst hi;refine Yr rfl (by rfl) fun K' hK=>?_;refine Pb _ _ 80 80 rfl rfl rfl hrun ?_;refine hK _ _ HS7.out ?_;clear hK K';simp only [Act.put,List.setIfInBounds_toArray];refine wpAnyH_all (rs:=[10]) (by decide +kernel) (by simp) ?_;intro i hi;rw [lAg] at hi;subst hi;refine Yr rfl (by rfl) fun K' hK=>?_
    go_simp
    refine hK _ _ HS8.out ?_;clear hK K';exact wpAnyH_done (by decide +kernel) ⟨rfl,HEND.out⟩ _
   ·refine Yr rfl (by rfl) fun K' hK=>?_
    go_simp
    go_at_call 42
    refine HBY.out.mono ?_;rintro e w5 ⟨rfl,hb5⟩;obtain ⟨HS5,HF5,HS6,HF6,gg,cap',W7,hrun,HEND,c7,f7,HS7,HS8⟩:=HRUN.out w5 hb5;have c5:=HF5.out;have c6:=HF6.out;clear hb5 HRUN HBY;refine hK _ _ HS5.out ?_;clear hK K';refine wpAnyH_all (rs:=[0,8]) (by decide +kernel) (by simp) ?_;intro i hi;simp only [List.mem_cons,List.not_mem_nil,or_false] at hi;rcases hi with rfl|rfl
    ·refine Yr rfl (by rfl) fun K' hK=>?_
     go_simp
     refine hK _ _ (by first|exact S0|exact HS5.out|exact HS6.out) ?_;clear hK K';refine wpAnyH_all (rs:=[8]) (by decide +kernel) (by simp) ?_;intro i hi;rw [lAg] at hi;subst hi;refine Yr rfl (by rfl) fun K' hK=>?_
     go_simp
     refine hK _ _ HS6.out ?_;clear hK K';refine wpAnyH_all (rs:=[9]) (by decide +kernel) (by simp) ?_;intro i hi;rw [lAg] at hi;subst hi;refine Yr rfl (by rfl) fun K' hK=>?_;refine Pb _ _ 80 80 rfl rfl rfl hrun ?_;refine hK _ _ HS7.out ?_;clear hK K';simp only [Act.put,List.setIfInBounds_toArray];refine wpAnyH_all (rs:=[10]) (by decide +kernel) (by simp) ?_;intro i hi;rw [lAg] at hi;subst hi;refine Yr rfl (by rfl) fun K' hK=>?_
     go_simp
     refine hK _ _ HS8.out ?_;clear hK K';exact wpAnyH_done (by decide +kernel) ⟨rfl,HEND.out⟩ _
    ·refine Yr rfl (by rfl) fun K' hK=>?_
     go_simp
     refine hK _ _ HS6.out ?_;clear hK K';refine wpAnyH_all (rs:=[0]) (by decide +kernel) (by simp) ?_;intro i hi;rw [lAg] at hi;subst hi;refine Yr rfl (by rfl) fun K' hK=>?_
     go_simp
     refine hK _ _ (by first|exact S0|exact HS5.out|exact HS6.out) ?_;clear hK K';refine wpAnyH_all (rs:=[9]) (by decide +kernel) (by simp) ?_;intro i hi;rw [lAg] at hi;subst hi;refine Yr rfl (by rfl) fun K' hK=>?_;refine Pb _ _ 80 80 rfl rfl rfl hrun ?_;refine hK _ _ HS7.out ?_;clear hK K';simp only [Act.put,List.setIfInBounds_toArray];refine wpAnyH_all (rs:=[10]) (by decide +kernel) (by simp) ?_;intro i hi;rw [lAg] at hi;subst hi;refine Yr rfl (by rfl) fun K' hK=>?_
     go_simp
     refine hK _ _ HS8.out ?_;clear hK K';exact wpAnyH_done (by decide +kernel) ⟨rfl,HEND.out⟩ _
  ·rintro e a' W' ⟨rfl,hend⟩;exact hend
 case done =>
  rintro D W hD ⟨rv,hb,q0,hr⟩ hK;rw [List.take_length] at hr;clear hseq;have HSW:=jY (HSM.out rv W hr);obtain ⟨c1,c2⟩:=Z5 q0;have HK:=jY hK;have HB:=jY hb;clear hK q0 hb hr;simp only [Exit.inBlock,Exit.then];go_wp2_with fail;refine HSW.out.mono ?_;rintro e W1 ⟨rfl,rfl⟩;go_wp2_with fail;exact Zc.Y5 (v:=.int .i64 (V8 (itl L):Nat)) rfl HK.out (by simp [results,Tryz.results8,go_sem,V8]) ⟨rfl,Zg HB.out (lAe hB3.size hD) _⟩
 case stop =>
  rintro D c j W hD hI hK;exact hI.elim
end
theorem O7{R:List Rt}{k:ByteArray}(h:0<=atR R k):∃ i x,atR R k=(i:Nat)/\R[i]?=some x/\x.key=k/\i<R.length:=by
 cases hf:R.findIdx? (fun x=>decide (x.key=k)) with
 | none =>
   have e:atR R k=-1:=by unfold atR;rw [hf]
   omega
 | some i =>
   have e:atR R k=i:=by unfold atR;rw [hf]
   obtain ⟨hi,hk,_⟩:=List.findIdx?_eq_some_iff_getElem.1 hf;exact ⟨i,R[i],e,lAa hi,by simpa using hk,hi⟩
theorem Mc{R:List Rt}{k:ByteArray}(h:¬ 0<=atR R k):atR R k=-1/\∀ x∈R,x.key≠k:=by
 cases hf:R.findIdx? (fun x=>decide (x.key=k)) with
 | none=>exact ⟨by unfold atR;rw [hf],fun x hx=>by simpa using List.findIdx?_eq_none_iff.1 hf x hx⟩
 | some i =>
   have e:atR R k=i:=by unfold atR;rw [hf]
   omega
def U6(R:List Rt)(k:ByteArray)(now:Int):Int:=if 64<k.size then 140 else if 0<=atR R k then 0 else if now<0 then 130 else if 500<=R.length then 51 else 0
def Ol(R:List Rt)(k:ByteArray)(now:Int)(a:Option Addr)(R':List Rt):Prop :=
 (U6 R k now≠0/\a=none/\R'=R)\/(U6 R k now=0/\k.size<=64/\∃ x∈R',x.key=k/\a=some ⟨x.r,0,none⟩/\((x∈R/\R'=R)\/(¬ 0<=atR R k/\0<=now/\R.length<500/\R'=Y0 R k [x]/\x.toIt=⟨k,5,now,false,[]⟩)))
section
variable {w w1 w':World} {rp sd:Nat} {u:Value} {en mn mx:Int} {R R':List Rt} {S:Nat->Prop}
theorem z8z(h:RefSp w rp en mn sd mx R S)(hz:∀ x∈R,x.key.size<=281474976710656)(k:ByteArray)(hk:k.size<=281474976710656)(now:Int) :
 Calls Tryz.prog 23 #[.pointer (some ⟨rp,0,none⟩),.string k,.int .i64 now] w fun e w'=>∃ a R',e=.returned (.tuple #[.pointer a,.int .i64 (U6 R k now)])/\RefNow w rp en mn sd mx S R' w'/\Ol R k now a R':=by
 have HA:=jY (Ge h k);have HN:=fun W=>jY (Lf.y3g now W);have HS:=jY (fun W hb=>RefNow.same (w':=W) h hb);obtain ⟨rv,hb,ho,hl,hs,hrs,hS⟩:=h.keys;have HB:=jY hb
 by_cases h64:64<k.size
 ·have hm:U6 R k now=140:=by unfold U6;rw [if_pos h64]
  have h64i:(64:Int)<k.size:=by omega
  have HM:=jY (show Ol R k now none R from .inl ⟨by rw [hm];decide,rfl,rfl⟩);rw [hm];clear hm h hb ho hs hrs hS hz HA HN HB
  go_enter Tryz.func23,Tryz.ntmps23
  go_wp2_with fail;go_ret2;exact ⟨none,R,rfl,HS.out _ (Below.refl _ _),HM.out⟩
 have h64i:(k.size:Int)<=64:=by omega
 by_cases hat:0<=atR R k
 ·have hm:U6 R k now=0:=by unfold U6;rw [if_neg h64,if_pos hat]
  obtain ⟨i,x,hi,hx,hxk,hil⟩:=O7 hat;have HM:=jY (show Ol R k now (some ⟨x.r,0,none⟩) R from .inr ⟨hm,by omega,x,lAc hx,hxk,rfl,.inl ⟨lAc hx,rfl⟩⟩);obtain ⟨g,cap,rfl,_,g1,_⟩:=ho.cells hx;have c0:=hb.cell 0;have hil2:(i:Int)<R.length:=by omega
  simp at c0;rw [hm];rw [hi] at HA;clear hm h hb ho hs hrs hS hz HN HB hxk hat hi hx
  go_enter Tryz.func23,Tryz.ntmps23
  go_wp2_with fail;refine HA.out.mono ?_;rintro e w1 ⟨rfl,rfl⟩;go_wp2_with fail;go_ret2;exact ⟨_,R,rfl,HS.out _ (Below.refl _ _),HM.out⟩
 ·obtain ⟨hat1,hno⟩:=Mc hat;rw [hat1] at HA
  by_cases hnow:now<0
  ·have hm:U6 R k now=130:=by unfold U6;rw [if_neg h64,if_neg hat,if_pos hnow]
   have HM:=jY (show Ol R k now none R from .inl ⟨by rw [hm];decide,rfl,rfl⟩);rw [hm];simp only [if_neg (show ¬ 0<=now by omega)] at HN;clear hm h hb ho hs hrs hS hz HB hat hat1 hno
   go_enter Tryz.func23,Tryz.ntmps23
   go_wp2_with fail;refine HA.out.mono ?_;rintro e w1 ⟨rfl,rfl⟩;go_wp2_with fail;refine (HN w1).out.mono ?_;rintro e w2 ⟨rfl,hb2⟩;have HX:=jY ((HS.out w2 hb2).later (Z0 w2 (.cells #[.int .i64 0,.int .i64 0] 48)));clear hb2 HS HN HA;go_wp2_with fail;go_ret2;exact ⟨none,R,rfl,HX.out,HM.out⟩
  ·have hnow2:0<=now:=by omega
   simp only [if_pos hnow2] at HN;obtain ⟨A,cap,rfl,_,_⟩:=ho.form
   by_cases hfull:500<=R.length
   ·have hm:U6 R k now=51:=by unfold U6;rw [if_neg h64,if_neg hat,if_neg hnow,if_pos hfull]
    have HM:=jY (show Ol R k now none R from .inl ⟨by rw [hm];decide,rfl,rfl⟩);have hf2:(500:Int)<=R.length:=by omega
    rw [hm];clear hm h hb ho hs hrs hS hz hat hat1 hno
    go_enter Tryz.func23,Tryz.ntmps23
    go_wp2_with fail;refine HA.out.mono ?_;rintro e w1 ⟨rfl,rfl⟩;go_wp2_with fail;refine (HN w1).out.mono ?_;rintro e w2 ⟨rfl,hb2⟩;have HX:=jY ((HS.out w2 hb2).later (Z0 w2 (.cells #[.int .i64 5,.int .i64 now] 48)));have c0:=((HB.out.later hb2).alloc (.cells #[.int .i64 5,.int .i64 now] 48)).cell 0;simp at c0;clear hb2 HS HN HA HB;go_wp2_with fail;go_ret2;exact ⟨none,R,rfl,HX.out,HM.out⟩
   ·have hm:U6 R k now=0:=by unfold U6;rw [if_neg h64,if_neg hat,if_neg hnow,if_neg hfull]
    have hf2:(R.length:Int)<500:=by omega
    have HR:=fun W=>jY (y5z en mn _ _ rfl rfl W);rw [hm];clear hat1
    go_enter Tryz.func23,Tryz.ntmps23
    go_wp2_with fail;refine HA.out.mono ?_;rintro e w1 ⟨rfl,rfl⟩;go_wp2_with fail;refine (HN w1).out.mono ?_;rintro e w2 ⟨rfl,hb2⟩;have c0:=((HB.out.later hb2).alloc (.cells #[.int .i64 5,.int .i64 now] 48)).cell 0;have c1:=((HB.out.later hb2).alloc (.cells #[.int .i64 5,.int .i64 now] 48)).cell 1;have c2:=((HB.out.later hb2).alloc (.cells #[.int .i64 5,.int .i64 now] 48)).cell 2;simp at c0 c1 c2;have HB2:=jY hb2;clear hb2;go_wp2_with fail;have K3:=Blk.new w2 48 #[.int .i64 5,.int .i64 now];have HB3:=jY (HB2.out.alloc HB2.out.size (.cells #[.int .i64 5,.int .i64 now] 48));generalize w2.alloc (.cells #[.int .i64 5,.int .i64 now] 48)=w3 at *;refine (HR w3).out.mono ?_;rintro e w4 ⟨r,rfl,hr,hrc,hb4⟩;have k4:=K3.later hb4;obtain ⟨u0,u1,_,_⟩:=Za k4;have hb14:=HB3.out.trans (hb4.mono HB3.out.size);have e0:=(HB.out.later hb14).cell 0;have e1:=((HB.out.later hb14).alloc (.cells #[.string k,.pointer (some ⟨r,0,none⟩),.int .i64 5,.int .i64 now] V0)).cell 0;simp at e0 e1;clear c0 c1 c2 K3 HR;go_wp2_with fail;obtain ⟨x,hx⟩:∃ x:Rt,x=⟨⟨k,5,now,false,[]⟩,r⟩:=⟨_,rfl⟩;have hb4d:Bl w1 w4.drew:=hb14.drew;have hb5:Bl w1 (w4.drew.alloc (.cells #[.string k,.pointer (some ⟨r,0,none⟩),.int .i64 5,.int .i64 now] V0)):=hb4d.alloc hb4d.size _;have HWI:=jY (D8 (X:=[x]) k hk (by omega) hz (w4.drew.alloc (.cells #[.string k,.pointer (some ⟨r,0,none⟩),.int .i64 5,.int .i64 now] V0)) (ho.later hb5) (by rw [hx];exact z0u w4.drew ⟨⟨k,5,now,false,[]⟩,r⟩));have hrp:rp<w1.heap.size:=hb.lt;have hrw:w1.heap.size<=r:=lAe HB3.out.size hr;have hne:w2.heap.size≠rp:=by have:=HB2.out.size;omega
    have k5:Blk (w4.drew.alloc (.cells #[.string k,.pointer (some ⟨r,0,none⟩),.int .i64 5,.int .i64 now] V0)) w2.heap.size 48 #[.int .i64 5,.int .i64 now]:=(k4.later (Zk w4 1)).alloc _;have hrc5:RefC (w4.drew.alloc (.cells #[.string k,.pointer (some ⟨r,0,none⟩),.int .i64 5,.int .i64 now] V0)) r [] (Z6 en 200) (Z6 mn 64) false:=(hrc.later (Zk w4 1)).later (Z0 w4.drew _)
    have HEND:=jY (fun w6 u (hb6:Below (w4.drew.alloc (.cells #[.string k,.pointer (some ⟨r,0,none⟩),.int .i64 5,.int .i64 now] V0)).heap.size (w4.drew.alloc (.cells #[.string k,.pointer (some ⟨r,0,none⟩),.int .i64 5,.int .i64 now] V0)) w6) (hu:OwnR w6 (w4.drew.alloc (.cells #[.string k,.pointer (some ⟨r,0,none⟩),.int .i64 5,.int .i64 now] V0)).heap.size u (Y0 R k [x]))=>show ∃ uA uC,u=.slice uA (Y0 R k [x]).length uC/\RefNow w1 rp en mn sd mx S (Y0 R k [x]) (w6.setCell ⟨rp,0,none⟩ u)/\Blk w6 w2.heap.size 48 #[.int .i64 5,.int .i64 now]/\Blk w6 rp Jn #[.slice A R.length cap,.int .i64 en,.int .i64 mn,.int .u32 sd,.int .i64 mx] from by
     obtain ⟨uA,uC,he,_,_⟩:=hu.form;have hb16:=hb5.trans (hb6.mono hb5.size);refine ⟨uA,uC,he,h.put hb16 (hu.mono hb5.size) ?_ (fun y hy=>?_) (D4 hrs (by simp) fun y hy z hz2 _ e=>?_) fun y hy=>?_,k5.later hb6,hb.later hb16⟩
     ·have:=Cc R k [x]
      simp at this;omega
     ·rcases Oy hy with hy|hy
      ·exact (hs y hy).later hb16
      ·rw [lAg] at hy;subst hy;subst hx;exact hrc5.later hb6
     ·rw [lAg] at hy;subst hy;subst hx;have h1:=(h.lt (hS z hz2));simp only at e;omega
     ·rcases Oy hy with hy|hy
      ·exact .inl (hS y hy)
      ·rw [lAg] at hy;subst hy;subst hx
       exact .inr hrw)
    have HM:=jY (show Ol R k now (some ⟨r,0,none⟩) (Y0 R k [x]) from .inr ⟨hm,by omega,x,(Um R k [x]).mem_iff.2 (by simp),by rw [hx],by rw [hx],.inr ⟨by omega,hnow2,by omega,rfl,by rw [hx]⟩⟩);have S0:(fun V:World=>V.cell? ⟨w2.heap.size,0,none⟩=some (.int .i64 5)/\V.cell? ⟨w2.heap.size,1,none⟩=some (.int .i64 now)) w4.drew:=⟨u0,u1⟩;have S5:=jY (show (w4.drew.alloc (.cells #[.string k,.pointer (some ⟨r,0,none⟩),.int .i64 5,.int .i64 now] V0)).cell? ⟨w2.heap.size,0,none⟩=some (.int .i64 5)/\(w4.drew.alloc (.cells #[.string k,.pointer (some ⟨r,0,none⟩),.int .i64 5,.int .i64 now] V0)).cell? ⟨w2.heap.size,1,none⟩=some (.int .i64 now) from ⟨k5.cell 0,k5.cell 1⟩);clear hx h hb ho hs hrs hS hz HS HN HA HB HB2 HB3 k4 k5 hb4d hb5 hb14 hrc hrc5 hr u0 u1;refine wp_region_any (by kernel_rfl) (wpAny_of_held (S:=fun V=>V.cell? ⟨w2.heap.size,0,none⟩=some (.int .i64 5)/\V.cell? ⟨w2.heap.size,1,none⟩=some (.int .i64 now)) _ _ _ _ ?_);change wpAnyH _ _ _ _ _ _ _ _ (World.drew _);refine wpAnyH_take (i:=0) (v:=.pointer (some ⟨rp,0,none⟩)) rfl (by kernel_rfl) (by decide +kernel) (by decide +kernel) (fun _ _ _ h=>h) (.inl ⟨by rfl,fun W' hS=>by go_simp⟩) S0 ?_;simp only [Act.put];refine wpAnyH_take (i:=1) (v:=.pointer (some ⟨rp,0,none⟩)) rfl (by kernel_rfl) (by decide +kernel) (by decide +kernel) (fun _ _ _ h=>h) (.inl ⟨by rfl,fun W' hS=>by go_simp⟩) S0 ?_;simp only [Act.put];refine wpAnyH_take (i:=2) (v:=.pointer (some ⟨rp,0,none⟩)) rfl (by kernel_rfl) (by decide +kernel) (by decide +kernel) (fun _ _ _ h=>h) (.inl ⟨by rfl,fun W' hS=>by go_simp⟩) S0 ?_;simp only [Act.put];refine wpAnyH_take (i:=3) (v:=.pointer (some ⟨rp,0,none⟩)) rfl (by kernel_rfl) (by decide +kernel) (by decide +kernel) (fun _ _ _ h=>h) (.inl ⟨by rfl,fun W' hS=>by go_simp⟩) S0 ?_;simp only [Act.put];refine wpAnyH_take (i:=5) (v:=.string k) rfl (by kernel_rfl) (by decide +kernel) (by decide +kernel) (fun _ _ _ h=>h) (.inl ⟨by rfl,fun W' hS=>by go_simp⟩) S0 ?_;simp only [Act.put];refine wpAnyH_take (i:=6) (v:=.string k) rfl (by kernel_rfl) (by decide +kernel) (by decide +kernel) (fun _ _ _ h=>h) (.inl ⟨by rfl,fun W' hS=>by go_simp⟩) S0 ?_;simp only [Act.put];refine wpAnyH_take (i:=7) (v:=.pointer (some ⟨r,0,none⟩)) rfl (by kernel_rfl) (by decide +kernel) (by decide +kernel) (fun _ _ _ h=>h) (.inl ⟨by rfl,fun W' hS=>by go_simp⟩) S0 ?_;simp only [Act.put];refine wpAnyH_take (i:=8) (v:=.agg #[.int .i64 5,.int .i64 now]) rfl (by kernel_rfl) (by decide +kernel) (by decide +kernel) (fun _ _ _ h=>h) (.inl ⟨by rfl,fun W' hS=>by obtain ⟨s0,s1⟩:=hS;go_simp⟩) S0 ?_;simp only [Act.put];refine wpAnyH_take (i:=9) (v:=.agg #[.string k,.pointer (some ⟨r,0,none⟩),.int .i64 5,.int .i64 now]) rfl (by kernel_rfl) (by decide +kernel) (by decide +kernel) (fun _ _ _ h=>h) (.inl ⟨by rfl,fun W' hS=>by go_simp⟩) S0 ?_;simp only [Act.put];refine wpAnyH_all (rs:=[4,10]) (by decide +kernel) (by simp) ?_;intro i hi;simp only [List.mem_cons,List.not_mem_nil,or_false] at hi;rcases hi with rfl|rfl
    ·refine Yr rfl (by rfl) fun K' hK=>?_
     go_simp
     refine hK _ _ S0 ?_;clear hK K';refine wpAnyH_all (rs:=[10]) (by decide +kernel) (by simp) ?_;intro i hi;rw [lAg] at hi;subst hi;refine Yr rfl (by rfl) fun K' hK=>?_
     go_simp
     refine hK _ _ S5.out ?_;clear hK K';refine wpAnyH_all (rs:=[11]) (by decide +kernel) (by simp) ?_;intro i hi;rw [lAg] at hi;subst hi;refine Yr rfl (by rfl) fun K' hK=>?_
     go_simp
     go_at_call 59
     refine HWI.out.mono ?_;rintro e w6 ⟨u,rfl,hu,hb6⟩;obtain ⟨uA,uC,rfl,HN6,k6,kr⟩:=HEND.out w6 u hb6 hu;have f6:=kr.free 0;have S6:=jY (show w6.cell? ⟨w2.heap.size,0,none⟩=some (.int .i64 5)/\w6.cell? ⟨w2.heap.size,1,none⟩=some (.int .i64 now) from ⟨k6.cell 0,k6.cell 1⟩)
     have S7:=jY (show (w6.setCell ⟨rp,0,none⟩ (.slice uA (Y0 R k [x]).length uC)).cell? ⟨w2.heap.size,0,none⟩=some (.int .i64 5)/\(w6.setCell ⟨rp,0,none⟩ (.slice uA (Y0 R k [x]).length uC)).cell? ⟨w2.heap.size,1,none⟩=some (.int .i64 now) from
      have k7:=k6.setOther 0 (.slice uA (Y0 R k [x]).length uC) hne
      ⟨k7.cell 0,k7.cell 1⟩)
     have c6:=kr.cell 0;simp at c6;have HNN:=jY HN6;clear hu hb6 HN6 k6 kr HWI HEND;refine hK _ _ S6.out ?_;clear hK K';refine wpAnyH_all (rs:=[12]) (by decide +kernel) (by simp) ?_;intro i hi;rw [lAg] at hi;subst hi;refine Yr rfl (by rfl) fun K' hK=>?_
     go_simp
     refine hK _ _ S6.out ?_;clear hK K';refine wpAnyH_all (rs:=[13]) (by decide +kernel) (by simp) ?_;intro i hi;rw [lAg] at hi;subst hi;refine Yr rfl (by rfl) fun K' hK=>?_
     go_simp
     refine hK _ _ S6.out ?_;clear hK K';refine wpAnyH_all (rs:=[14]) (by decide +kernel) (by simp) ?_;intro i hi;rw [lAg] at hi;subst hi;refine Yr rfl (by rfl) fun K' hK=>?_
     go_simp
     refine hK _ _ S7.out ?_;clear hK K';refine wpAnyH_done (by decide +kernel) ?_ _;clear S6 S7 c6 f6;go_wp2_with fail;go_ret2;exact ⟨_,rfl,_,HNN.out,HM.out⟩
    ·refine Yr rfl (by rfl) fun K' hK=>?_
     go_simp
     refine hK _ _ S5.out ?_;clear hK K';refine wpAnyH_all (rs:=[4]) (by decide +kernel) (by simp) ?_;intro i hi;rw [lAg] at hi;subst hi;refine Yr rfl (by rfl) fun K' hK=>?_
     go_simp
     refine hK _ _ S5.out ?_;clear hK K';refine wpAnyH_all (rs:=[11]) (by decide +kernel) (by simp) ?_;intro i hi;rw [lAg] at hi;subst hi;refine Yr rfl (by rfl) fun K' hK=>?_
     go_simp
     go_at_call 59
     refine HWI.out.mono ?_;rintro e w6 ⟨u,rfl,hu,hb6⟩;obtain ⟨uA,uC,rfl,HN6,k6,kr⟩:=HEND.out w6 u hb6 hu;have f6:=kr.free 0;have S6:=jY (show w6.cell? ⟨w2.heap.size,0,none⟩=some (.int .i64 5)/\w6.cell? ⟨w2.heap.size,1,none⟩=some (.int .i64 now) from ⟨k6.cell 0,k6.cell 1⟩)
     have S7:=jY (show (w6.setCell ⟨rp,0,none⟩ (.slice uA (Y0 R k [x]).length uC)).cell? ⟨w2.heap.size,0,none⟩=some (.int .i64 5)/\(w6.setCell ⟨rp,0,none⟩ (.slice uA (Y0 R k [x]).length uC)).cell? ⟨w2.heap.size,1,none⟩=some (.int .i64 now) from
      have k7:=k6.setOther 0 (.slice uA (Y0 R k [x]).length uC) hne
      ⟨k7.cell 0,k7.cell 1⟩)
     have c6:=kr.cell 0;simp at c6;have HNN:=jY HN6;clear hu hb6 HN6 k6 kr HWI HEND;refine hK _ _ S6.out ?_;clear hK K';refine wpAnyH_all (rs:=[12]) (by decide +kernel) (by simp) ?_;intro i hi;rw [lAg] at hi;subst hi;refine Yr rfl (by rfl) fun K' hK=>?_
     go_simp
     refine hK _ _ S6.out ?_;clear hK K';refine wpAnyH_all (rs:=[13]) (by decide +kernel) (by simp) ?_;intro i hi;rw [lAg] at hi;subst hi;refine Yr rfl (by rfl) fun K' hK=>?_
     go_simp
     refine hK _ _ S6.out ?_;clear hK K';refine wpAnyH_all (rs:=[14]) (by decide +kernel) (by simp) ?_;intro i hi;rw [lAg] at hi;subst hi;refine Yr rfl (by rfl) fun K' hK=>?_
     go_simp
     refine hK _ _ S7.out ?_;clear hK K';refine wpAnyH_done (by decide +kernel) ?_ _;clear S6 S7 c6 f6;go_wp2_with fail;go_ret2;exact ⟨_,rfl,_,HNN.out,HM.out⟩
end
theorem x8d{R:List Rt}{x:Rt}{k:ByteArray}(hk:Y6 (itr R))(hx:x∈R)(he:x.key=k):Xy (itr R) k=some x.toIt:=by
 rw [<- he];exact Bd hk (List.mem_map.2 ⟨x,hx,rfl⟩)
theorem y5h{R:List Rt}{k:ByteArray}(h:∀ x∈R,x.key≠k):Xy (itr R) k=none:=by
 unfold Xy;rw [List.find?_eq_none];intro y hy;obtain ⟨x,hx,rfl⟩:=List.mem_map.1 hy
 simpa using h x hx
section
variable {w w1 w':World} {rp sd:Nat} {u:Value} {en mn mx:Int} {R R':List Rt} {S:Nat->Prop}
theorem x5e(h:RefSp w rp en mn sd mx R S)(hkeys:Y6 (itr R))(hz:∀ x∈R,x.key.size<=281474976710656)(k:ByteArray)(hk:k.size<=281474976710656) :
 Calls Tryz.prog 34 #[.pointer (some ⟨rp,0,none⟩),.string k] w fun e w'=>e=.returned (.bool (Yg (itr R) k))/\RefNow w rp en mn sd mx S (if Yg (itr R) k then Y0 R k [] else R) w':=by
 have HA:=jY (Ge h k);have HD:=jY (z0a h hz k hk);have HS:=jY (RefNow.same h (Below.refl _ _));obtain ⟨rv,hb,ho,hl,hs,hrs,hS⟩:=h.keys
 by_cases hat:0<=atR R k
 ·obtain ⟨i,x,hi,hx,hxk,hil⟩:=O7 hat;have hg:=x8d hkeys (lAc hx) hxk;obtain ⟨g,cap,rfl,_,g1,_⟩:=ho.cells hx;obtain ⟨a,c,hre,_,_⟩:=(hs x (lAc hx)).ex;have c0:=hb.cell 0;have c1:=hre.cell 0;have hil2:(i:Int)<R.length:=by omega
  simp at c0 c1;rw [decide_eq_true hat] at HD;rw [hi] at HA
  by_cases he:x.E=[]
  ·have hem:Yg (itr R) k=true:=by unfold Yg;rw [hg];simp [he]
   rw [hem];simp only [if_true];rw [he] at c1;clear h hb ho hs hrs hS hz hxk hat hi hx hg hkeys hre
   go_enter Tryz.func34,Tryz.ntmps34
   go_wp2_with fail;refine HA.out.mono ?_;rintro e w1 ⟨rfl,rfl⟩;go_wp2_with fail;refine HD.out.mono ?_;rintro e w2 ⟨rfl,hn⟩;have HN:=jY hn;clear hn HD HA HS;go_wp2_with fail;go_ret;exact ⟨rfl,HN.out⟩
  ·have hem:Yg (itr R) k=false:=by unfold Yg;rw [hg];simp [he]
   have hpos:(0:Int)<x.E.length:=by have:=List.length_pos_iff.2 he;omega
   rw [hem];clear h hb ho hs hrs hS hz hxk hat hi hx hg hkeys hre HD
   go_enter Tryz.func34,Tryz.ntmps34
   go_wp2_with fail;refine HA.out.mono ?_;rintro e w1 ⟨rfl,rfl⟩;go_wp2_with fail;go_ret;exact ⟨rfl,HS.out⟩
 ·obtain ⟨hat1,hno⟩:=Mc hat;have hem:Yg (itr R) k=false:=by unfold Yg;rw [y5h hno]
  rw [hem];rw [hat1] at HA;clear h hb ho hs hrs hS hz hat hat1 hno HD
  go_enter Tryz.func34,Tryz.ntmps34
  go_wp2_with fail;refine HA.out.mono ?_;rintro e w1 ⟨rfl,rfl⟩;go_wp2_with fail;go_ret;exact ⟨rfl,HS.out⟩
end
end Go.Proofs.YtcklcmafohlflaaGreatDoor

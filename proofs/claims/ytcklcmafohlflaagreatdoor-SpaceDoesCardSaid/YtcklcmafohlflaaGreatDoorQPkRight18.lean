/- Texts of one kind in one: PkRight, PkNth, PkFind, PkEntries, PkPick. -/
import Derived.Test.YtcklcmafohlflaaGreatDoorQPkBase17
import Derived.Sort.CutIn
set_option maxRecDepth 200000
set_option maxHeartbeats 8000000
namespace Go.Proofs.YtcklcmafohlflaaGreatDoor.Pk
open Zc
open Go.RowKit Go.Shelf
attribute [local go_sem] Oper.semAt_some
theorem Ct(s:ByteArray):∀ (n i:Nat) (acc:List UInt8),s.size-i=n->ByteArray.toList.loop s i acc=acc.reverse++s.data.toList.drop i
 | 0,i,acc,h=>by
   unfold ByteArray.toList.loop;rw [if_neg (by omega),List.drop_of_length_le (by rw [Array.length_toList];show s.size<=i;omega),List.append_nil]
 | n+1,i,acc,h=>by
   unfold ByteArray.toList.loop;have hi:i<s.data.toList.length:=by rw [Array.length_toList];show i<s.size;omega
   rw [if_pos (by omega),Ct s n (i+1) _ (by omega),List.reverse_cons,List.append_assoc,List.drop_eq_getElem_cons hi]
   congr 2
   rw [show s.get! i=s.data[i]! from rfl];simp [getElem!_def,show s.data[i]?=some (s.data[i]'hi) from Array.getElem?_eq_getElem _]
theorem Vv(s t:ByteArray)(h:s.toList=t.toList):s=t:=by
 have hl:∀ x:ByteArray,x.toList=x.data.toList:=fun x=>by unfold ByteArray.toList;rw [Ct x _ 0 [] rfl];simp
 rw [hl,hl] at h;exact ByteArray.ext (Array.toList_inj.1 h)
theorem x8s(o:Option Cut)(x:Cut)(h2:2<=x.fr)(h:o≠some x)(W:World):(binOp .neq 306 (Oh o) x.val).run Tryz.prog W=.ok (.bool true) W:=by
 obtain ⟨m',s',f',t'⟩:=x
 cases o with
 | none =>
   simp [Oh,z2k,Cut.val,go_sem];simp at h2;omega
 | some a =>
   obtain ⟨m,s,f,t⟩:=a;simp only [ne_eq,Option.some.injEq,Cut.mk.injEq,not_and] at h;simp [Oh,Cut.val,go_sem];intro h1 h3 h4 h5;refine h ?_ h3 (by omega) (by omega);obtain ⟨⟨m⟩⟩:=m;obtain ⟨⟨m'⟩⟩:=m';exact (Vv _ _ h1)
theorem x3v(a:Cut)(W:World):(binOp .neq 306 a.val a.val).run Tryz.prog W=.ok (.bool false) W:=by
 simp [Cut.val,go_sem]
theorem x6o{W5:World}{b4 b5:Nat}{x4 x5 v4 v5:Value}{L:List Nat}(h4:Blk W5 b4 3 #[x4])(h5:Blk W5 b5 3 #[x5])(hne:b4≠b5)(m4:b4∈L)(m5:b5∈L)(B n0:Nat)(hn4:n0<=b4)(hn5:n0<=b5) :
 KeepsFrom B W5 ((W5.setCell ⟨b4,0,none⟩ v4).setCell ⟨b5,0,none⟩ v5).drew/\KeepC itT L W5 ((W5.setCell ⟨b4,0,none⟩ v4).setCell ⟨b5,0,none⟩ v5).drew/\Below n0 W5 ((W5.setCell ⟨b4,0,none⟩ v4).setCell ⟨b5,0,none⟩ v5).drew /\
 Blk ((W5.setCell ⟨b4,0,none⟩ v4).setCell ⟨b5,0,none⟩ v5).drew b4 3 #[v4]/\Blk ((W5.setCell ⟨b4,0,none⟩ v4).setCell ⟨b5,0,none⟩ v5).drew b5 3 #[v5] /\
 (∀ k,k≠b4->k≠b5->((W5.setCell ⟨b4,0,none⟩ v4).setCell ⟨b5,0,none⟩ v5).drew.heap[k]?=W5.heap[k]?):=by
 have a4:=(h4.set 0 v4).setOther 0 v5 hne;have a5:=(h5.setOther 0 v4 (Ne.symm hne)).set 0 v5
 refine ⟨((KeepsOthers.setCell _ _ _).from _).trans (((KeepsOthers.setCell _ _ _).from _).trans (y1v _ _)),(KeepC.set _ _ _ _ m4).trans ((KeepC.set _ _ _ _ m5).trans (y1u _ _)),
  (((Below.refl n0 W5).setCell (p:=⟨b4,0,none⟩) hn4 v4).setCell (p:=⟨b5,0,none⟩) hn5 v5).drew,a4,a5,fun k k4 k5=>?_⟩
 show ((W5.setCell ⟨b4,0,none⟩ v4).setCell ⟨b5,0,none⟩ v5).heap[k]?=_;rw [Below.heap_setCell _ _ _ _ k5,Below.heap_setCell _ _ _ _ k4]
theorem y3m(p:ByteArray)(hp:p.size<=281474976710656)(xs:List Cut)(hc:Chain (Ud p) (Yd p 2) xs)(hx:∀ c∈xs,2<=c.to/\c.to<=p.size)(ans:Bool)
 (hT:∀ (i:Nat),Kf p xs i->i<=xs.length->(i=xs.length\/Ye p<=i)->(i=0\/(i:Int)<=Ye p)->ans=(decide ((i:Int)=Ye p)&&decide ((Yh xs i:Int)=p.size)))
 (hF:∀ (i:Nat) (c:Cut),Kf p xs i->xs[i]?=some c->Pn p c.to≠some c->(i:Int)<Ye p->ans=false) (w:World) :
 Calls Tryz.prog 168 #[.string p] w fun e w'=>e=.returned (.bool ans)/\Bl w w':=by
 have HN:=fun w=>jY (Ju p hp w);have HF:=fun w=>jY (Qb p hp xs hc (fun c h=>(hx c h).2) w);have HE:=fun to h0 h1 w=>jY (y7f p hp to h0 h1 w);have HT:=jY hT;have HFF:=jY hF;have hn0:-1<=Ye p/\Ye p<=200:=by unfold Ye;split;omega;split <;> omega
 have hc2:=hc.two;clear hT hF hc;generalize Ye p=n at *;refine (callsIn_wide (n:=6)).1 (callsIn_of_wp_marks Tryz.func168 rfl trivial ?_ rfl);refine wpIn_wide.2 ?_;simp only [Tryz.ntmps168,List.size_toArray,List.length_cons,List.length_nil,Nat.reduceAdd,Nat.reduceSub,Array.replicate_succ,Array.replicate_zero,List.push_toArray,List.append_toArray,List.nil_append,List.cons_append];go_wp2_with fail
 go_step3
 go_wp2_with fail;refine (HN _).out.mono ?_;rintro e w1 ⟨rfl,hb1⟩;have k1:=((Blk.new w 9 #[Value.string p]).alloc (Obj.cells #[Value.bool false] 4)).later hb1;have k2:=(Blk.new (w.alloc (Obj.cells #[Value.string p] 9)) 4 #[Value.bool false]).later hb1;rw [World.size_alloc] at k2;have hB:=(((Below.refl w.heap.size w).alloc (lAd _) (Obj.cells #[Value.string p] 9)).alloc (by simp) (Obj.cells #[Value.bool false] 4)).trans (hb1.mono (by simp;omega));clear HN hb1;have k1':=(((k1.alloc (Obj.cells #[Value.int IntKind.i64 n] 3)).alloc (Obj.cells #[Value.int IntKind.i64 0] 3)).alloc (Obj.cells #[Value.int IntKind.i64 2] 3));have k2':=(((k2.alloc (Obj.cells #[Value.int IntKind.i64 n] 3)).alloc (Obj.cells #[Value.int IntKind.i64 0] 3)).alloc (Obj.cells #[Value.int IntKind.i64 2] 3));have k3':=((Blk.new w1 3 #[Value.int IntKind.i64 n]).alloc (Obj.cells #[Value.int IntKind.i64 0] 3)).alloc (Obj.cells #[Value.int IntKind.i64 2] 3);have k4':=(Blk.new (w1.alloc (Obj.cells #[Value.int IntKind.i64 n] 3)) 3 #[Value.int IntKind.i64 0]).alloc (Obj.cells #[Value.int IntKind.i64 2] 3);have k5':=(Blk.new ((w1.alloc (Obj.cells #[Value.int IntKind.i64 n] 3)).alloc (Obj.cells #[Value.int IntKind.i64 0] 3)) 3 #[Value.int IntKind.i64 2]);simp only [World.size_alloc] at k4' k5';have hB':=(((hB.alloc hB.size (Obj.cells #[Value.int IntKind.i64 n] 3)).alloc (by have:=hB.size;simp;omega) (Obj.cells #[Value.int IntKind.i64 0] 3)).alloc (by have:=hB.size;simp;omega) (Obj.cells #[Value.int IntKind.i64 2] 3));have hsz:((((w1.alloc (Obj.cells #[Value.int IntKind.i64 n] 3)).alloc (Obj.cells #[Value.int IntKind.i64 0] 3)).alloc (Obj.cells #[Value.int IntKind.i64 2] 3))).heap.size=w1.heap.size+3:=by simp
 have e1:=(Z5 k1').1;have hw1:w.heap.size+1<w1.heap.size:=k2.lt;clear k1 k2;go_wp2_with fail
 go_step3
 go_wp2_with fail;refine (HF _).out.mono ?_;rintro e w2 ⟨v,rfl,⟨lb,rfl,hG⟩,hb2⟩;clear HF e1;go_wp2;have k1:=k1'.later hb2;have k2:=k2'.later hb2;have k3:=k3'.later hb2;have k4:=k4'.later hb2;have k5:=k5'.later hb2;have hB2:=hB'.trans (hb2.mono hB'.size);have hsz2:=hb2.size;rw [hsz] at hsz2 hG;clear k1' k2' k3' k4' k5' hB' hb2;have hseq:=hG [w.heap.size+1,w1.heap.size+1,w1.heap.size+1+1] w2 (Below.refl _ _) (by intro k hk;simp at hk;omega)
 refine (wpIn_wide (n:=6)).1 (Ui (gf:=217) (lb:=lb) (encs:=Cx) (xs:=xs) (L:=[w.heap.size+1,w1.heap.size+1,w1.heap.size+1+1]) rfl (enters_of Tryz.func217 (by kernel_rfl) rfl) hseq (fun _ _=>rfl)
  (fun i W=>Bl w W/\Blk W w.heap.size 9 #[.string p]/\Blk W (w.heap.size+1) 4 #[.bool false]/\Blk W w1.heap.size 3 #[.int .i64 n]/\Blk W (w1.heap.size+1) 3 #[.int .i64 (i:Int)]/\Blk W (w1.heap.size+1+1) 3 #[.int .i64 (Yh xs i:Int)]/\Kf p xs i/\i<=xs.length/\(i=0\/(i:Int)<=n))
  (fun c j W=>match c with
    | .exit id=>∃ i,(id=0/\j=i+1)/\Bl w W/\Blk W w.heap.size 9 #[.string p]/\Blk W (w.heap.size+1) 4 #[.bool false]/\Blk W w1.heap.size 3 #[.int .i64 n]/\Blk W (w1.heap.size+1) 3 #[.int .i64 (i:Int)]/\Blk W (w1.heap.size+1+1) 3 #[.int .i64 (Yh xs i:Int)]/\Kf p xs i/\i<=xs.length/\(i=0\/(i:Int)<=n)/\n<=i
    | .ret=>Bl w W/\Blk W (w.heap.size+1) 4 #[.bool false]/\ans=false
    | _=>False)
  ?hI ?hIx ?h0 (fun i x a' W=>∃ q,a'={ tmps:=#[Value.string p,Value.pointer (some { block:=w.heap.size,off:=0 }),
   Value.pointer (some { block:=w.heap.size+1,off:=0 }),Value.pointer (some { block:=w1.heap.size,off:=0 }),
   Value.pointer (some { block:=w1.heap.size+1,off:=0 }),Value.pointer (some { block:=w1.heap.size+1+1,off:=0 }),Value.int IntKind.i64 i,
   Value.pointer (some { block:=q,off:=0 }),Value.string p,Value.int IntKind.i64 n,
   Value.string p,Value.func (Fn.func 217) #[] lb,Value.int IntKind.i64 i,
   Value.agg #[Value.string x.m,Value.int IntKind.i64 x.s,Value.int IntKind.i64 x.fr,Value.int IntKind.i64 x.to],
   undef,undef,undef,undef,undef,undef,undef,undef,undef,undef,undef,undef,undef,undef,undef,
   undef,undef,undef,undef,undef,undef,undef,undef,undef],defers:=[] }/\Blk W q 306 #[.string x.m,.int .i64 x.s,.int .i64 x.fr,.int .i64 x.to])
  (fun _ _ _=>Zz fun _=>(Z4 _ _).and (Zh _ _ _ _)) ?assign ?body ?done ?stop)
 case hI=>exact (Ze _ w (by omega)).and ((Zh _ _ _ _).and ((Zh _ _ _ _).and ((Zh _ _ _ _).and ((Zh _ _ _ (fun i:Nat=>#[.int .i64 (i:Int)])).and ((Zh _ _ _ (fun i:Nat=>#[.int .i64 (Yh xs i:Int)])).and (Z4 _ _))))))
 case hIx =>
  intro c
  cases c with
  | exit id=>exact Zz fun i=>(Z4 _ _).and ((Ze _ w (by omega)).and ((Zh _ _ _ _).and ((Zh _ _ _ _).and ((Zh _ _ _ _).and ((Zh _ _ _ _).and ((Zh _ _ _ _).and (Z4 _ _)))))))
  | ret=>exact (Ze _ w (by omega)).and ((Zh _ _ _ _).and (Z4 _ _))
  | _=>exact Z4 _ _
 case h0=>exact ⟨hB2,k1,k2,k3,k4,k5,fun j c hj=>by omega,Nat.zero_le _,.inl rfl⟩
 case assign =>
  rintro l i x W K hx' ⟨hb,q1,q2,q3,q4,q5,hgd⟩ hK;clear hseq HE hG;unfold Cx Cut.val;gi_wp2;have hbw:=(Below.refl W.heap.size W).alloc (lAd _) (Obj.cells #[Value.string x.m,Value.int IntKind.i64 x.s,Value.int IntKind.i64 x.fr,Value.int IntKind.i64 x.to] 306);exact hK _ _ ((KeepsOthers.alloc _ _).from _) (KeepC.of_below hbw) ⟨hb.alloc hb.size _,q1.alloc _,q2.alloc _,q3.alloc _,q4.alloc _,q5.alloc _,hgd⟩ ⟨_,rfl,Blk.new _ _ _⟩
 case body =>
  rintro l i x a' W hx' ⟨hb,q1,q2,q3,q4,q5,hgd⟩ ⟨q,rfl,q6⟩;clear hseq hG;have hmem:=lAc hx';obtain ⟨ht0,ht1⟩:=hx x hmem;obtain ⟨c1,_⟩:=Z5 q1;obtain ⟨c2,f2⟩:=Z5 q2;obtain ⟨c3,_⟩:=Z5 q3;obtain ⟨c4,f4⟩:=Z5 q4;obtain ⟨c5,f5⟩:=Z5 q5;obtain ⟨d0,d1,d2,d3,_⟩:=Zm q6
  by_cases hni:n<=i
  ·gi_wp2;exact ⟨KeepsFrom.refl _ _,i,⟨rfl,rfl⟩,hb,q1,q2,q3,q4,q5,hgd.1,hgd.2.1,hgd.2.2,hni⟩
  ·have HE':=fun w=>jY ((HE x.to (by omega) ht1 w).out);have hmix:Tryz.prog.follows .mixedOrders=true:=by kernel_rfl
   have hil:i<xs.length:=(lAb.1 hx').1
   by_cases hg:Pn p x.to=some x
   ·have hgd1:Kf p xs (i+1):=fun j c hj hc=>by
     by_cases e:j=i
     ·subst e;rw [hx'] at hc;cases hc;exact hg
     ·exact hgd.1 j c (by omega) hc
    have hend:∀ W,Blk W (w1.heap.size+1+1) 3 #[.int .i64 (x.to:Int)]->Blk W (w1.heap.size+1+1) 3 #[.int .i64 (Yh xs (i+1):Int)]:=fun W h=>by
     rw [show Yh xs (i+1)=x.to by simp [Yh,hx']];exact h
    have hne:=x3v x;rw [hg] at HE';unfold Oh Cut.val at HE';unfold Cut.val at hne;have hi9:(0:Int)<=i:=by omega
    have hw9:IntKind.i64.wrap ((i:Int)+1)=(i:Int)+1:=IntWalk.i64_in _ (by omega);have hin:(i:Int)<n:=by omega
    have hi2:(i:Int)<200:=by omega
    gi_wp2
    gi_region_with_o ((try refine ⟨trivial,?_⟩);gi_at_call 193;refine (CallsIn.inRound l (callsIn_wide.2 (HE' _).out)).mono ?_;rintro e W5 ⟨rfl,hb5⟩;obtain ⟨d50,d51,d52,d53,_⟩:=Zm (q6.drew.later hb5))
    all_goals (
     have m1:=q1.drew.later hb5;have m2:=q2.drew.later hb5;have m3:=q3.drew.later hb5;have m4:=q4.drew.later hb5;have m5:=q5.drew.later hb5;have m6:=q6.drew.later hb5;have hq4:q≠w1.heap.size+1:=fun e=>by subst e;have:=(show W.heap[w1.heap.size+1]?=_ from q6).symm.trans q4;simp at this
     have hq5:q≠w1.heap.size+1+1:=fun e=>by subst e;have:=(show W.heap[w1.heap.size+1+1]?=_ from q6).symm.trans q5;simp at this
     obtain ⟨c4,f4⟩:=Z5 m4;obtain ⟨c5,f5⟩:=Z5 m5;have hbW:Bl W W5:=(Below.refl W.heap.size W).drew.trans (show Below W.heap.size W.drew W5 from hb5);have hb5':Bl w W5:=hb.drew.trans (hb5.mono (by have:=hb.size;simpa using this));have hk5:KeepC itT [w.heap.size+1,w1.heap.size+1,w1.heap.size+1+1] W W5:=KeepC.of_below hbW;have hkf:KeepsFrom w2.heap.size W W5:=KeepsFrom.of_grownBy (row:=none) (Z9 hbW) (fun _ h=>by cases h);have H1:=jY m1;have H2:=jY m2;have H3:=jY m3;have H4:=jY m4;have H5:=jY m5;have HB:=jY hb5';have HK:=jY hk5;have HKF:=jY hkf;clear m1 m2 m3 m4 m5 hb5' hk5 hkf HE HE';gi_wp2
     gi_region_with_o (fail)
     all_goals gi_wp2
     all_goals (
      obtain ⟨z1,z2,z3,z4,z5,z6⟩:=x6o (L:=[w.heap.size+1,w1.heap.size+1,w1.heap.size+1+1]) (v4:=.int .i64 ((i:Int)+1)) (v5:=.int .i64 (x.to:Int)) H4.out H5.out (by omega) (by simp) (by simp) w2.heap.size w.heap.size (by omega) (by omega)
      exact ⟨HKF.out.trans z1,HK.out.trans z2,HB.out.trans z3,(z6 _ (by omega) (by omega)).trans H1.out,(z6 _ (by omega) (by omega)).trans H2.out,(z6 _ (by omega) (by omega)).trans H3.out,z4,hend _ z5,hgd1,by omega,.inr (by omega)⟩))
   ·have hne:=x8s _ x (hc2 x hmem) hg;have hfalse:=HFF.out i x hgd.1 hx' hg (by omega);obtain ⟨m,s,f,t,hsh⟩:=Pj (Pn p x.to);rw [hsh] at HE' hne;unfold Cut.val at hne;clear hsh;gi_wp2
    gi_region_with_o ((try refine ⟨trivial,?_⟩);gi_at_call 193;refine (CallsIn.inRound l (callsIn_wide.2 (HE' _).out)).mono ?_;rintro e W5 ⟨rfl,hb5⟩;obtain ⟨d50,d51,d52,d53,_⟩:=Zm (q6.drew.later hb5))
    all_goals (
     have m2:=q2.drew.later hb5;obtain ⟨c2,f2⟩:=Z5 m2;have hbW:Bl W W5:=(Below.refl W.heap.size W).drew.trans (show Below W.heap.size W.drew W5 from hb5);have hb5':Bl w W5:=hb.trans (hbW.mono hb.size);have hkf:KeepsFrom w2.heap.size W W5:=KeepsFrom.of_grownBy (row:=none) (Z9 hbW) (fun _ h=>by cases h);have H2:=jY m2;have HB:=jY hb5';have HKF:=jY hkf;clear m2 hb5' hkf HE HE';gi_wp2
     exact ⟨HKF.out.trans ((KeepsOthers.setCell _ _ _).from _),HB.out.setCell (p:=⟨w.heap.size+1,0,none⟩) (by simp) _,H2.out.set 0 _,hfalse⟩)
 case done =>
  rintro D W hD ⟨hb,q1,q2,q3,q4,q5,hgd⟩ hK;have hans:=HT.out xs.length hgd.1 (lAd _) (.inl rfl) hgd.2.2;clear hseq hG HE;obtain ⟨c1,_⟩:=Z5 q1;obtain ⟨c2,f2⟩:=Z5 q2;obtain ⟨c3,_⟩:=Z5 q3;obtain ⟨c4,f4⟩:=Z5 q4;obtain ⟨c5,f5⟩:=Z5 q5;have Q2:=jY q2;have HK:=jY hK;have HA:=jY hans;generalize Yh xs xs.length=en at *;clear hK q2 hans;simp only [Exit.inBlock,Exit.then];go_wp2
  all_goals (
   have hD':∀ v,(W.setCell ⟨w.heap.size+1,0,none⟩ v).heap[D]?=some (.deferred (some [])):=fun v=>(Below.heap_setCell _ _ _ _ (by simp;omega)).trans HK.out;refine Y5 rfl (hD' _) (y8y (.inr rfl) Tryz.results168 rfl ((Q2.out.set 0 _).put' (hD' _) _)) ⟨?_,Zg (hb.setCell (p:=⟨w.heap.size+1,0,none⟩) (by simp) _) (by omega) _⟩;rw [HA.out]
   first
    | (have h1:((xs.length:Nat):Int)=n:=by (first|assumption|omega)
       simp [h1,Bool.beq_eq_decide_eq];done)
    | (have h1:¬ ((xs.length:Nat):Int)=n:=by (first|assumption|omega)
       simp [h1];done)
    | (simp_all;done)
    | trace_state)
 case stop =>
  rintro D c j W hD hI hK
  cases c with
  | ret =>
    obtain ⟨hb,q2,hf⟩:=hI;clear hseq hG HE;have Q2:=jY q2;have HK:=jY hK;clear hK q2;refine wpIn_wide.2 ?_;go_wp2;refine Y5 rfl HK.out (y8y (.inr rfl) Tryz.results168 rfl (Q2.out.put' HK.out _)) ⟨by rw [hf],Zg hb (by omega) _⟩
  | exit id =>
    obtain ⟨i,⟨rfl,rfl⟩,hb,q1,q2,q3,q4,q5,hgd⟩:=hI;have hans:=HT.out i hgd.1 hgd.2.1 (.inr hgd.2.2.2) hgd.2.2.1;clear hseq hG HE;obtain ⟨c1,_⟩:=Z5 q1;obtain ⟨c2,f2⟩:=Z5 q2;obtain ⟨c3,_⟩:=Z5 q3;obtain ⟨c4,f4⟩:=Z5 q4;obtain ⟨c5,f5⟩:=Z5 q5;have Q2:=jY q2;have HK:=jY hK;have HA:=jY hans;generalize Yh xs i=en at *;clear hK q2 hans;refine wpIn_wide.2 ?_;go_wp2
    all_goals (
     have hD':∀ v,(W.setCell ⟨w.heap.size+1,0,none⟩ v).heap[D]?=some (.deferred (some [])):=fun v=>(Below.heap_setCell _ _ _ _ (by simp;omega)).trans HK.out;refine Y5 rfl (hD' _) (y8y (.inr rfl) Tryz.results168 rfl ((Q2.out.set 0 _).put' (hD' _) _)) ⟨?_,Zg (hb.setCell (p:=⟨w.heap.size+1,0,none⟩) (by simp) _) (by omega) _⟩;rw [HA.out]
     first
      | (have h1:((i:Nat):Int)=n:=by (first|assumption|omega)
         simp [h1,Bool.beq_eq_decide_eq];done)
      | (have h1:¬ ((i:Nat):Int)=n:=by (first|assumption|omega)
         simp [h1];done)
      | (simp_all;done)
      | trace_state)
  | _=>exact hI.elim
theorem Uq(p:ByteArray)(hp:p.size<=281474976710656)(w:World) :
 Calls Tryz.prog 168 #[.string p] w fun e w'=>e=.returned (.bool (Zt p))/\Bl w w':=by
 obtain ⟨xs,hc,hx⟩:=Gq p hp;exact y3m p hp xs hc hx _ (fun i hg hl h1 h2=>y8z hc i hg hl h1 h2) (fun i c hg hx he hn=>z9e hc i c hg hx he hn) w
def v3i(p:ByteArray):Value:=.agg #[.string ⟨#[]⟩,.int .i64 0,.int .i64 p.size,.int .i64 p.size]
theorem As(p:ByteArray)(hp:p.size<=281474976710656)(xs:List Cut)(hc:Chain (Ud p) (Yd p 2) xs)(hx:∀ c∈xs,c.to<=p.size)(k:Nat)(hk:k<=1000)(ans:Value)
 (h1:∀ c,xs[k]?=some c->ans=c.val) (h2:xs[k]?=none->ans=v3i p) (w:World) :
 Calls Tryz.prog 286 #[.string p,.int .i64 k] w fun e w'=>e=.returned ans/\Bl w w':=by
 have HF:=fun w=>jY (Qb p hp xs hc hx w);have H1:=jY h1;have H2:=jY h2;have hmany:=hc.many;clear h1 h2 hc;refine (callsIn_wide (n:=6)).1 (callsIn_of_wp_marks Tryz.func286 rfl trivial ?_ rfl);refine wpIn_wide.2 ?_;simp only [Tryz.ntmps286,List.size_toArray,List.length_cons,List.length_nil,Nat.reduceAdd,Nat.reduceSub,Array.replicate_succ,Array.replicate_zero,List.push_toArray,List.append_toArray,List.nil_append,List.cons_append];go_wp2_with fail;refine (HF _).out.mono ?_;rintro e w1 ⟨v,rfl,⟨lb,rfl,hG⟩,hb1⟩;clear HF;have k1:=((Blk.new w 3 #[Value.int IntKind.i64 k]).alloc (Obj.cells #[Value.string { data:=#[] },Value.int IntKind.i64 0,Value.int IntKind.i64 0,Value.int IntKind.i64 0] 306)).later hb1;have k2:=(Blk.new (w.alloc (Obj.cells #[Value.int IntKind.i64 k] 3)) 306 #[Value.string { data:=#[] },Value.int IntKind.i64 0,Value.int IntKind.i64 0,Value.int IntKind.i64 0]).later hb1;rw [World.size_alloc] at k2;have hB:=(((Below.refl w.heap.size w).alloc (lAd _) (Obj.cells #[Value.int IntKind.i64 k] 3)).alloc (by simp) (Obj.cells #[Value.string { data:=#[] },Value.int IntKind.i64 0,Value.int IntKind.i64 0,Value.int IntKind.i64 0] 306)).trans (hb1.mono (by simp;omega));have hsz1:=hb1.size;simp only [World.size_alloc] at hsz1 hG;clear hb1;go_wp2;have hseq:=hG [w.heap.size+1] w1 (Below.refl _ _) (by intro k hk;simp at hk;omega)
 refine (wpIn_wide (n:=6)).1 (Ui (gf:=217) (lb:=lb) (encs:=Cx) (xs:=xs) (L:=[w.heap.size+1]) rfl (enters_of Tryz.func217 (by kernel_rfl) rfl) hseq (fun _ _=>rfl)
  (fun i W=>Bl w W/\Blk W w.heap.size 3 #[.int .i64 (k:Int)]/\Blk W (w.heap.size+1) 306 #[Value.string { data:=#[] },Value.int IntKind.i64 0,Value.int IntKind.i64 0,Value.int IntKind.i64 0]/\i<=k)
  (fun c j W=>match c with
    | .ret=>∃ x:Cut,xs[k]?=some x/\Bl w W/\Blk W (w.heap.size+1) 306 #[.string x.m,.int .i64 x.s,.int .i64 x.fr,.int .i64 x.to]
    | _=>False)
  ?hI ?hIx ?h0 (fun i x a' W=>∃ q,a'={ tmps:=#[Value.string p,Value.int IntKind.i64 ↑k,undef,Value.pointer (some { block:=w.heap.size,off:=0 }),
   Value.pointer (some { block:=w.heap.size+1,off:=0 }),Value.int IntKind.i64 i,Value.pointer (some { block:=q,off:=0 }),Value.string p,
   Value.func (Fn.func 217) #[] lb,Value.int IntKind.i64 i,Value.agg #[Value.string x.m,Value.int IntKind.i64 x.s,Value.int IntKind.i64 x.fr,Value.int IntKind.i64 x.to],undef,undef,undef,undef,undef,undef,undef,undef,undef],defers:=[] }/\Blk W q 306 #[.string x.m,.int .i64 x.s,.int .i64 x.fr,.int .i64 x.to])
  (fun _ _ _=>Zz fun _=>(Z4 _ _).and (Zh _ _ _ _)) ?assign ?body ?done ?stop)
 case hI=>exact (Ze _ w (by omega)).and ((Zh _ _ _ _).and ((Zh _ _ _ _).and (Z4 _ _)))
 case hIx =>
  intro c
  cases c with
  | ret=>exact Zz fun i=>(Z4 _ _).and ((Ze _ w (by omega)).and (Zh _ _ _ _))
  | _=>exact Z4 _ _
 case h0=>exact ⟨hB,k1,k2,Nat.zero_le _⟩
 case assign =>
  rintro l i x W K hx' ⟨hb,q1,q2,hgd⟩ hK;clear hseq hG;unfold Cx Cut.val;gi_wp2;have hbw:=(Below.refl W.heap.size W).alloc (lAd _) (Obj.cells #[Value.string x.m,Value.int IntKind.i64 x.s,Value.int IntKind.i64 x.fr,Value.int IntKind.i64 x.to] 306);exact hK _ _ ((KeepsOthers.alloc _ _).from _) (KeepC.of_below hbw) ⟨hb.alloc hb.size _,q1.alloc _,q2.alloc _,hgd⟩ ⟨_,rfl,Blk.new _ _ _⟩
 case body =>
  rintro l i x a' W hx' ⟨hb,q1,q2,hgd⟩ ⟨q,rfl,q6⟩;clear hseq hG;obtain ⟨c1,_⟩:=Z5 q1;obtain ⟨d0,d1,d2,d3,_⟩:=Zm q6;obtain ⟨g0,g1,g2,g3,g4,g5,g6,g7⟩:=Zm q2;have Q2:=jY q2
  by_cases hik:i=k
  ·subst hik;gi_wp2;obtain ⟨z1,z2,z3⟩:=z6a (.string x.m) (.int .i64 x.s) (.int .i64 x.fr) (.int .i64 x.to) Q2.out;exact ⟨((((KeepsOthers.setCell _ _ _).from _).trans ((KeepsOthers.setCell _ _ _).from _)).trans ((KeepsOthers.setCell _ _ _).from _)).trans ((KeepsOthers.setCell _ _ _).from _),x,hx',hb.trans (z3 _ (by omega)),z1⟩
  ·have hik2:¬ (i:Int)=(k:Int):=by omega
   gi_wp2;exact ⟨KeepsFrom.refl _ _,KeepC.refl _ _,hb,q1,q2,by omega⟩
 case done =>
  rintro D W hD ⟨hb,q1,q2,hgd⟩ hK;have hans:=H2.out (List.getElem?_eq_none_iff.2 hgd);clear hseq hG;obtain ⟨g0,g1,g2,g3,g4,g5,g6,g7⟩:=Zm q2;have Q2:=jY q2;have HK:=jY hK;clear hK q2;simp only [Exit.inBlock,Exit.then];go_wp2;obtain ⟨z1,z2,z3⟩:=z6a (.string ⟨#[]⟩) (.int .i64 0) (.int .i64 (p.size:Int)) (.int .i64 (p.size:Int)) Q2.out;have hD':=(z2 D (by omega)).trans HK.out;refine Y5 rfl hD' (v4a Tryz.results286 rfl (z1.put' hD' _)) ⟨by rw [hans];rfl,Zg (hb.trans (z3 _ (by omega))) (by omega) _⟩
 case stop =>
  rintro D c j W hD hI hK
  cases c with
  | ret =>
    obtain ⟨x,hx',hb,q2⟩:=hI;have hans:=H1.out x hx';clear hseq hG;have Q2:=jY q2;have HK:=jY hK;clear hK q2;refine wpIn_wide.2 ?_;go_wp2;refine Y5 rfl HK.out (v4a Tryz.results286 rfl (Q2.out.put' HK.out _)) ⟨by rw [hans];rfl,Zg hb (by omega) _⟩
  | _=>exact hI.elim
theorem v1t{fn:Func}{R:Ending->World->Prop}{a:Act}{W:World}{v:Value}(hd:a.defers=[])(hr:(results fn a.tmps).run Tryz.prog W=.ok v W)(hR:R (.returned v) W):bodyPostM Fence.wide 6 Tryz.prog fn R .ret a W:=by
 obtain ⟨tmps,ds⟩:=a;simp only at hd;subst hd;exact ⟨v,hr,hR⟩
def A8(xs:List Cut)(m:ByteArray):Int:=match xs.findIdx? (fun c=>decide (c.m=m)) with
 | none=>-1
 | some i=>i
theorem y1d{xs:List Cut}{mem:ByteArray}(h:∀ (j:Nat) (c:Cut),j<xs.length->xs[j]?=some c->c.m≠mem):A8 xs mem=-1:=by
 unfold A8;rw [List.findIdx?_eq_none_iff.2 fun c hc=>?_];obtain ⟨j,hj,rfl⟩:=List.mem_iff_getElem.1 hc
 simpa using h j _ hj (lAa hj)
theorem y1e{xs:List Cut}{mem:ByteArray}{i:Nat}{x:Cut}(hx:xs[i]?=some x)(hm:x.m=mem)(h:∀ (j:Nat) (c:Cut),j<i->xs[j]?=some c->c.m≠mem):A8 xs mem=i:=by
 unfold A8;obtain ⟨hi,rfl⟩:=lAb.1 hx;rw [List.findIdx?_eq_some_iff_getElem.2 ⟨hi,by simpa using hm,fun j hj=>by simpa using h j _ hj (lAa (by omega))⟩]
theorem z1q(p mem:ByteArray)(hp:p.size<=281474976710656)(ok:Bool)(HR:∀ w,Hid (Calls Tryz.prog 168 #[.string p] w fun e w'=>e=.returned (.bool ok)/\Bl w w'))(xs:List Cut)(hc:Chain (Ud p) (Yd p 2) xs)(hx:∀ c∈xs,c.to<=p.size)(w:World) :
 Calls Tryz.prog 276 #[.string p,.string mem] w fun e w'=>e=.returned (.int .i64 (if ok then A8 xs mem else -1))/\Bl w w':=by
 have HF:=fun w=>jY (Qb p hp xs hc hx w);have hmany:=hc.many;clear hc;refine (callsIn_wide (n:=6)).1 (callsIn_of_wp_marks Tryz.func276 rfl trivial ?_ rfl);refine wpIn_wide.2 ?_;simp only [Tryz.ntmps276,List.size_toArray,List.length_cons,List.length_nil,Nat.reduceAdd,Nat.reduceSub,Array.replicate_succ,Array.replicate_zero,List.push_toArray,List.append_toArray,List.nil_append,List.cons_append];go_wp2_with fail;refine (HR _).out.mono ?_;clear HR;rintro e w1 ⟨rfl,hb1⟩;have k1:=((Blk.new w 9 #[Value.string mem]).alloc (Obj.cells #[Value.int IntKind.i64 0] 3)).later hb1;have k2:=(Blk.new (w.alloc (Obj.cells #[Value.string mem] 9)) 3 #[Value.int IntKind.i64 0]).later hb1;rw [World.size_alloc] at k2;have hB:=(((Below.refl w.heap.size w).alloc (lAd _) (Obj.cells #[Value.string mem] 9)).alloc (by simp) (Obj.cells #[Value.int IntKind.i64 0] 3)).trans (hb1.mono (by simp;omega));have hsz1:=hb1.size;simp only [World.size_alloc] at hsz1;clear hb1
 cases ok with
 | false =>
   obtain ⟨c2,f2⟩:=Z5 k2;clear HF;have Q2:=jY k2;clear k2;go_wp2;exact v1t rfl (y8y (.inl rfl) Tryz.results276 rfl (Q2.out.set 0 _)) ⟨rfl,hB.setCell (p:=⟨w.heap.size+1,0,none⟩) (by simp) _⟩
 | true =>
   go_wp2_with fail;refine (HF _).out.mono ?_;rintro e w2 ⟨v,rfl,⟨lb,rfl,hG⟩,hb2⟩;clear HF;have k12:=k1.later hb2;have k22:=k2.later hb2;have hB2:=hB.trans (hb2.mono hB.size);have hsz2:=hb2.size;clear k1 k2 hb2;go_wp2;have hseq:=hG [w.heap.size+1] w2 (Below.refl _ _) (by intro k hk;simp at hk;omega)
   refine (wpIn_wide (n:=6)).1 (Ui (gf:=217) (lb:=lb) (encs:=Cx) (xs:=xs) (L:=[w.heap.size+1]) rfl (enters_of Tryz.func217 (by kernel_rfl) rfl) hseq (fun _ _=>rfl)
    (fun i W=>Bl w W/\Blk W w.heap.size 9 #[.string mem]/\Blk W (w.heap.size+1) 3 #[.int .i64 0]/\∀ (j:Nat) (c:Cut),j<i->xs[j]?=some c->c.m≠mem)
    (fun c j W=>match c with
      | .ret=>∃ (i:Nat) (x:Cut),xs[i]?=some x/\x.m=mem/\(∀ (j:Nat) (c:Cut),j<i->xs[j]?=some c->c.m≠mem)/\Bl w W/\Blk W (w.heap.size+1) 3 #[.int .i64 (i:Int)]
      | _=>False)
    ?hI ?hIx ?h0 (fun i x a' W=>∃ q,(∃ u0 u1 u11 u12,a'={ tmps:=#[u0,u1,undef,Value.pointer (some { block:=w.heap.size,off:=0 }),
     Value.pointer (some { block:=w.heap.size+1,off:=0 }),Value.int IntKind.i64 i,Value.pointer (some { block:=q,off:=0 }),Value.string p,u11,u12,Value.string p,
     Value.func (Fn.func 217) #[] lb,Value.int IntKind.i64 i,Value.agg #[Value.string x.m,Value.int IntKind.i64 x.s,Value.int IntKind.i64 x.fr,Value.int IntKind.i64 x.to],undef,undef,undef,undef,undef,undef],defers:=[] })/\Blk W q 306 #[.string x.m,.int .i64 x.s,.int .i64 x.fr,.int .i64 x.to])
    (fun _ _ _=>Zz fun _=>(Z4 _ _).and (Zh _ _ _ _)) ?assign ?body ?done ?stop)
   case hI=>exact (Ze _ w (by omega)).and ((Zh _ _ _ _).and ((Zh _ _ _ _).and (Z4 _ _)))
   case hIx =>
    intro c
    cases c with
    | ret=>exact Zz fun i=>Zz fun x=>(Z4 _ _).and ((Z4 _ _).and ((Z4 _ _).and ((Ze _ w (by omega)).and (Zh _ _ _ _))))
    | _=>exact Z4 _ _
   case h0=>exact ⟨hB2,k12,k22,fun j c hj=>by omega⟩
   case assign =>
    rintro l i x W K hx' ⟨hb,q1,q2,hgd⟩ hK;clear hseq hG;unfold Cx Cut.val;gi_wp2;have hbw:=(Below.refl W.heap.size W).alloc (lAd _) (Obj.cells #[Value.string x.m,Value.int IntKind.i64 x.s,Value.int IntKind.i64 x.fr,Value.int IntKind.i64 x.to] 306);exact hK _ _ ((KeepsOthers.alloc _ _).from _) (KeepC.of_below hbw) ⟨hb.alloc hb.size _,q1.alloc _,q2.alloc _,hgd⟩ ⟨_,⟨_,_,_,_,rfl⟩,Blk.new _ _ _⟩
   case body =>
    rintro l i x a' W hx' ⟨hb,q1,q2,hgd⟩ ⟨q,⟨u0,u1,u11,u12,rfl⟩,q6⟩;clear hseq hG;obtain ⟨c1,_⟩:=Z5 q1;obtain ⟨d0,d1,d2,d3,_⟩:=Zm q6;obtain ⟨g0,g1⟩:=Z5 q2;have Q2:=jY q2
    by_cases hik:x.m=mem
    ·have HX:=jY hx';have HM:=jY hik;have hbeq:(x.m.toList==mem.toList)=true:=by rw [hik];simp
     clear hik;gi_wp2;exact ⟨(KeepsOthers.setCell _ _ _).from _,i,x,HX.out,HM.out,hgd,hb.setCell (p:=⟨w.heap.size+1,0,none⟩) (by simp) _,Q2.out.set 0 _⟩
    ·have hbeq:(x.m.toList==mem.toList)=false:=by
      rw [Bool.eq_false_iff];intro h;rw [ByteArray.toList_eq,ByteArray.toList_eq] at h;exact hik (ByteArray.ext (Array.ext' (by simpa using h)))
     have HIK:=jY hik;clear hik;gi_wp2;refine ⟨KeepsFrom.refl _ _,KeepC.refl _ _,hb,q1,Q2.out,fun j c hj hc=>?_⟩
     by_cases e:j=i
     ·subst e;rw [hx'] at hc;cases hc;exact HIK.out
     ·exact hgd j c (by omega) hc
   case done =>
    rintro D W hD ⟨hb,q1,q2,hgd⟩ hK;clear hseq hG;obtain ⟨g0,g1⟩:=Z5 q2;have Q2:=jY q2;have HK:=jY hK;clear hK q2;simp only [Exit.inBlock,Exit.then];go_wp2;have hD':∀ v,(W.setCell ⟨w.heap.size+1,0,none⟩ v).heap[D]?=some (.deferred (some [])):=fun v=>(Below.heap_setCell _ _ _ _ (by simp;omega)).trans HK.out;refine Y5 rfl (hD' _) (y8y (.inl rfl) Tryz.results276 rfl ((Q2.out.set 0 _).put' (hD' _) _)) ⟨?_,Zg (hb.setCell (p:=⟨w.heap.size+1,0,none⟩) (by simp) _) (by omega) _⟩;rw [y1d hgd]
   case stop =>
    rintro D c j W hD hI hK
    cases c with
    | ret =>
      obtain ⟨i,x,hx',hm,hf,hb,q2⟩:=hI;clear hseq hG;have Q2:=jY q2;have HK:=jY hK;clear hK q2;refine wpIn_wide.2 ?_;go_wp2;refine Y5 rfl HK.out (y8y (.inl rfl) Tryz.results276 rfl (Q2.out.put' HK.out _)) ⟨?_,Zg hb (by omega) _⟩;rw [y1e hx' hm hf]
    | _=>exact hI.elim
def Cut.ent(c:Cut):Ent:=(c.m,c.s)
theorem z0w(l:List Ent):(Zx l).length=l.length*2:=by
 induction l with
 | nil=>rfl
 | cons e l ih=>rw [show Zx (e :: l)=[.string e.1,.int .i64 e.2]++Zx l from rfl];simp [ih];omega
def Own35(W:World)(n0:Nat)(v:Value)(l:List Ent):Prop:=W.ownsRow n0 94 2 v l.length (Zx l)
theorem Mp{β:Type}(B n0:Nat)(v:Value)(l:β->List Ent):OwnFrom B (fun s W=>Own35 W n0 v (l s)):=fun s X Y row hs hg hr =>
 World.ownsRow.kept hs hg (by
  rcases hs.2 with ⟨rfl,_⟩|⟨g,cap,cur,rfl,_,hgb,_⟩
  ·exact .inl rfl
  ·refine .inr (fun e=>?_);obtain ⟨_,o,ho,hc⟩:=hr g e.symm
   rw [hgb] at ho;cases ho;cases hc)
theorem Oi{F:Fence}{n:Nat}{P:Program}{ops:Array Oper}{o:Oper}{a:Act}{w w':World}{K:Act->World->Prop}{Q:Exit->Act->World->Prop}{E:Prop}{v xv v':Value}(hgd:o.guard=none)(s x:Operand)(t u:TypeId)
 (ho:o.op=Op.call { callee:=Callee.builtin Builtin.append,args:=#[s,x],argTypes:=#[t,u] }) (hs:a.eval s=v) (hx:a.eval x=xv) (hrun:(Builtin.append_ #[t,u] o.type #[v,xv]).run P w=.ok v' w')
 (h:K (a.put o.dst v') w'):if Region.wanted o (yielded ops a.tmps)=true then Oper.wpIn F n P o a w K Q else E:=by
 have hw:Region.wanted o (yielded ops a.tmps)=true:=by simp [Region.wanted,hgd]
 rw [if_pos hw];unfold Oper.wpIn;refine ⟨?_,?_⟩
 ·simp [Oper.about,ho,resolve,Target.leads,Sem.run_pure]
 ·rw [Oper.semAt_plain F _ _ (by rw [ho];intro c hc';cases hc')];simp [execOp,ho,resolve,invoke,builtin,hs,hx,hrun,Result.andThen];exact h
theorem Iw{W W6:World}(h:Below W.drew.heap.size W.drew W6):Bl W W6:=(Below.refl W.heap.size W).drew.trans h
theorem Own35.later{W W6:World}{n0:Nat}{r:Value}{l:List Ent}(h:Own35 W n0 r l)(hb:Bl W W6):Own35 W6 n0 r l:=World.ownsRow.kept h (Z9 hb) (by
 rcases h.2 with ⟨rfl,_⟩|⟨g,cap,cur,rfl,_⟩
 ·exact .inl rfl
 ·exact .inr (by simp [Value.ownBlock]))
theorem Blk.row{W W7:World}{b n0:Nat}{t:TypeId}{c:Array Value}{r:Value}{l:List Ent}{o:Obj}(h:Blk W b t c)(hg:(W.alloc o).grownBy W7 r.ownBlock)(ho:Own35 W n0 r l)(ht:t≠94:=by decide):Blk W7 b t c :=
 (hg.block b (h.alloc o).lt (fun e=>by
   rcases ho.2 with ⟨rfl,_⟩|⟨g,cap,cur,rfl,_,hgb,_⟩
   ·simp [Value.ownBlock] at e
   ·simp [Value.ownBlock] at e;subst e
    have:=(show W.heap[b]?=_ from h).symm.trans hgb
    simp at this
    exact ht this.2)).trans (h.alloc o)
theorem Bb{i0:TypeInfo}(hi0:Tryz.prog.info? 94=some i0)(hz0:i0.zero=some (Value.agg #[Value.string { data:=#[] },Value.int IntKind.i64 0]))(hz1:i0.size=2)(hz2:i0.bytes=24)
 {W W6:World} {n0:Nat} {r:Value} {l:List Ent} (hown:Own35 W n0 r l) (hb:Bl W W6) (e:Ent) (hl:l.length<=1000000000) (hn:n0<=W6.heap.size) :
 ∃ g cap W7,(Builtin.append_ #[55,55] 55 #[r,.slice (some ⟨W6.heap.size,0,none⟩) 1 1]).run Tryz.prog (W6.alloc (.cells #[.string e.1,.int .i64 e.2] 94))=.ok (.slice (some ⟨g,0,none⟩) (l.length+1) cap) W7 /\
  Own35 W7 n0 (.slice (some ⟨g,0,none⟩) (l.length+1) cap) (l++[e])/\(W6.alloc (.cells #[.string e.1,.int .i64 e.2] 94)).grownBy W7 r.ownBlock:=by
 obtain ⟨v',w',hrun,r1,r2,r3⟩:=run_append_own (P:=Tryz.prog) (W6.alloc (.cells #[.string e.1,.int .i64 e.2] 94)) n0 55 55 94 i0 _ 2 24 Tryz.underlying55 hi0 hz0 hz1 hz2 rfl (by decide) r _ _ (World.ownsRow.alloc (hown.later hb) _) ⟨W6.heap.size,0,none⟩ 1 1 [.string e.1,.int .i64 e.2] rfl
  (fun j u hj=>by
    have hB:=Blk.new W6 94 #[.string e.1,.int .i64 e.2]
    match j,hj with
    | 0,hj=>simp at hj;subst hj;exact hB.cell 0
    | 1,hj=>simp at hj;subst hj;simp [Addr.add]
    | j+2,hj=>simp at hj)
  (by simp [Value.oneCell']) (by unfold maxLen;omega) (by omega) (by simp;omega)
 have r1':Own35 w' n0 v' (l++[e]):=by
  unfold Own35;rw [Zb,lAh];exact r1
 rcases r1.2 with ⟨rfl,h0⟩|⟨g,cap,cur,rfl,_⟩
 ·omega
 ·exact ⟨g,cap,w',hrun,r1',r2⟩
theorem Mq{w:World}{base base':Nat}{e:TypeId}{size:Nat}{v:Value}{n:Nat}{xs:List Value}(h:w.ownsRow base e size v n xs)(hb:base'<=base):w.ownsRow base' e size v n xs:=by
 refine ⟨h.1,?_⟩;rcases h.2 with hn|⟨g,cap,cur,rfl,hb',rest⟩
 ·exact .inl hn
 ·exact .inr ⟨g,cap,cur,rfl,lAe hb hb',rest⟩
theorem z3p{w0 W W6 W7:World}{o:Obj}{b n0:Nat}{r v':Value}{l l':List Ent}(h:Blk W b 55 #[r])(ho:Own35 W n0 r l)(hb6:Bl W W6)(hgrow:(W6.alloc o).grownBy W7 r.ownBlock)(ho7:Own35 W7 n0 v' l')(hbn:b<n0)
 (hB:Bl w0 W) (hw:w0.heap.size<=b) (B:Nat) (L:List Nat) :
 KeepsFrom B W (W7.setCell ⟨b,0,none⟩ v')/\KeepC itT L W (W7.setCell ⟨b,0,none⟩ v')/\Bl w0 (W7.setCell ⟨b,0,none⟩ v')/\Blk (W7.setCell ⟨b,0,none⟩ v') b 55 #[v']/\Own35 (W7.setCell ⟨b,0,none⟩ v') n0 v' l':=by
 have h7:=(h.later hb6).row hgrow (ho.later hb6);have hs6:=hb6.size;have hsw:=hB.size;refine ⟨?_,?_,?_,h7.set 0 v',?_⟩
 ·refine (((KeepsFrom.of_grownBy (row:=none) (Z9 hb6) (fun _ h=>by cases h)).trans ((KeepsOthers.alloc _ _).from _)).trans ((KeepsOthers.of_grownBy hgrow fun j o ej hj=>?_).from B)).trans ((KeepsOthers.setCell _ _ _).from _);rcases (World.ownsRow.alloc (ho.later hb6) _).2 with ⟨rfl,_⟩|⟨g,cap,cur,rfl,_,hgb,_⟩
  ·simp [Value.ownBlock] at ej
  ·obtain rfl:g=j:=by simpa [Value.ownBlock] using ej
   rw [hgb] at hj;cases hj;rfl
 ·refine (((KeepC.of_below hb6).trans (KeepC.of_below ((Below.refl _ _).alloc (lAd _) _))).trans (KeepC.of_grownBy hgrow fun k c t ek hk=>?_)).trans (KeepC.of_grownBy (row:=some b) (grownBy_setCell' _ _ _) fun k c t ek hk=>?_)
  ·rcases (World.ownsRow.alloc (ho.later hb6) o).2 with ⟨rfl,_⟩|⟨g,cap,cur,rfl,_,hgb,_⟩
   ·simp [Value.ownBlock] at ek
   ·obtain rfl:g=k:=by simpa [Value.ownBlock] using ek
    rw [hgb] at hk;cases hk;simp [itT]
  ·cases ek
   rw [show W7.heap[b]?=_ from h7] at hk;cases hk;simp [itT]
 ·refine (((hB.trans (hb6.mono hsw)).alloc (by omega) o).grown hgrow (by simp;omega) fun k ek=>?_).setCell (p:=⟨b,0,none⟩) hw v'
  have:=(World.ownsRow.lt ho k ek).1
  omega
 ·refine World.ownsRow.kept ho7 (grownBy_setCell' _ _ _) (.inr fun e=>?_)
  have:=(World.ownsRow.lt ho7 b e).1
  omega
theorem z7d(lb:Array Value)(xs:List Cut)(LL:Nat->List Ent)(hL0:LL 0=[])(hLs:∀ (i:Nat) (x:Cut),xs[i]?=some x->LL (i+1)=LL i++[(x.m,x.s)])(hLn:∀ i,i<=xs.length->(LL i).length=i)
 (hs:∀ c∈xs,c.m.size<=1000) (hlen:xs.length<=1000000) (w:World) (hG:Cv itT Tryz.prog 217 lb Cx xs [] (w.alloc (Obj.cells #[Value.slice none 0 0] 55))) :
 Calls Tryz.prog 169 #[.func (.func 217) #[] lb] w fun e w'=>∃ r,e=.returned r/\Own35 w' w.heap.size r (LL xs.length)/\Bl w w':=by
 obtain ⟨i0,hi0,hz0,hz1,hz2⟩:=info_parts Yo;refine (callsIn_wide (n:=6)).1 (callsIn_of_wp_marks Tryz.func169 rfl trivial ?_ rfl);refine wpIn_wide.2 ?_;simp only [Tryz.ntmps169,List.size_toArray,List.length_cons,List.length_nil,Nat.reduceAdd,Nat.reduceSub,Array.replicate_succ,Array.replicate_zero,List.push_toArray,List.append_toArray,List.nil_append,List.cons_append];go_wp2;have k1:=Blk.new w 55 #[Value.slice none 0 0];have hB:=(Below.refl w.heap.size w).alloc (lAd _) (Obj.cells #[Value.slice none 0 0] 55);have hsz:(w.alloc (Obj.cells #[Value.slice none 0 0] 55)).heap.size=w.heap.size+1:=by simp
 have hseq:=hG;clear hG;generalize w.alloc (Obj.cells #[Value.slice none 0 0] 55)=w1 at *
 refine (wpIn_wide (n:=6)).1 (Ui (gf:=217) (lb:=lb) (encs:=Cx) (xs:=xs) (L:=[]) rfl (enters_of Tryz.func217 (by kernel_rfl) rfl) hseq (fun _ _=>rfl)
  (fun i W=>∃ r,Bl w W/\Blk W w.heap.size 55 #[r]/\Own35 W (w.heap.size+1) r (LL i))
  (fun _ _ _=>False)
  ?hI (fun _=>Z4 _ _) ?h0 (fun i x a' W=>∃ q,(∃ u7,a'={ tmps:=#[.func (.func 217) #[] lb,undef,Value.slice none 0 0,Value.pointer (some { block:=w.heap.size,off:=0 }),undef,
        Value.pointer (some { block:=q,off:=0 }),.func (.func 217) #[] lb,u7,Value.agg #[Value.string x.m,Value.int IntKind.i64 x.s,Value.int IntKind.i64 x.fr,Value.int IntKind.i64 x.to],undef,undef,undef,undef,undef,undef],defers:=[] })/\Blk W q 306 #[.string x.m,.int .i64 x.s,.int .i64 x.fr,.int .i64 x.to])
  (fun _ _ _=>Zz fun _=>(Z4 _ _).and (Zh _ _ _ _)) ?assign ?body ?done (fun _ _ _ _ _ h _=>h.elim))
 case hI=>exact Zz fun r=>(Ze _ w (by omega)).and ((Zh _ _ _ _).and (Mp _ _ _ _))
 case h0=>exact ⟨_,hB,k1,by rw [hL0];exact World.ownsRow_nil _ _ _ _⟩
 case assign =>
  rintro l i x W K hx' ⟨r,hb,q1,hown⟩ hK;clear hseq;unfold Cx Cut.val;gi_wp2;have hbw:=(Below.refl W.heap.size W).alloc (lAd _) (Obj.cells #[Value.string x.m,Value.int IntKind.i64 x.s,Value.int IntKind.i64 x.fr,Value.int IntKind.i64 x.to] 306);exact hK _ _ ((KeepsOthers.alloc _ _).from _) (KeepC.of_below hbw) ⟨r,hb.alloc hb.size _,q1.alloc _,World.ownsRow.alloc hown _⟩ ⟨_,⟨_,rfl⟩,Blk.new _ _ _⟩
 case body =>
  rintro l i x a' W hx' ⟨r,hb,q1,hown⟩ ⟨q,⟨u7,rfl⟩,q6⟩;clear hseq;have hil:i<xs.length:=(lAb.1 hx').1;have hE:=fun w=>jY (z1o x (hs x (lAc hx')) w);unfold Cut.val at hE;obtain ⟨c1,f1⟩:=Z5 q1;obtain ⟨d0,d1,d2,d3,_⟩:=Zm q6;have hmix:Tryz.prog.follows .mixedOrders=true:=by kernel_rfl
  have hli:=hLn i (by omega);have HLS:=jY (hLs i x hx');gi_wp2;refine wpIn_region_any hmix ?_;change wpAnyIn _ _ _ _ _ _ _ _ _ (World.drew _)
  iterate 6 (
   all_goals (first|refine wpAnyIn_ready (rs:=[0,1]) (by decide +kernel) (by simp) (AllReadyIn.cons rfl (fun K hK=>?_) (AllReadyIn.cons rfl (fun K hK=>?_) AllReadyIn.nil))|refine wpAnyIn_ready (rs:=[0,2]) (by decide +kernel) (by simp) (AllReadyIn.cons rfl (fun K hK=>?_) (AllReadyIn.cons rfl (fun K hK=>?_) AllReadyIn.nil))|refine wpAnyIn_ready (rs:=[0,3]) (by decide +kernel) (by simp) (AllReadyIn.cons rfl (fun K hK=>?_) (AllReadyIn.cons rfl (fun K hK=>?_) AllReadyIn.nil))|refine wpAnyIn_ready (rs:=[0]) (by decide +kernel) (by simp) (AllReadyIn.cons rfl (fun K hK=>?_) AllReadyIn.nil)|refine wpAnyIn_ready (rs:=[1]) (by decide +kernel) (by simp) (AllReadyIn.cons rfl (fun K hK=>?_) AllReadyIn.nil)|refine wpAnyIn_ready (rs:=[2]) (by decide +kernel) (by simp) (AllReadyIn.cons rfl (fun K hK=>?_) AllReadyIn.nil)|refine wpAnyIn_ready (rs:=[3]) (by decide +kernel) (by simp) (AllReadyIn.cons rfl (fun K hK=>?_) AllReadyIn.nil)|refine wpAnyIn_ready (rs:=[4]) (by decide +kernel) (by simp) (AllReadyIn.cons rfl (fun K hK=>?_) AllReadyIn.nil)|refine wpAnyIn_ready (rs:=[5]) (by decide +kernel) (by simp) (AllReadyIn.cons rfl (fun K hK=>?_) AllReadyIn.nil))
   all_goals (first|(refine Oi rfl _ _ 55 55 rfl rfl rfl hrun ?_;refine hK _ _ ?_;clear hK K hrun)|(go_simp;refine hK _ _ ?_;clear hK K)|(go_simp;(try refine ⟨trivial,?_⟩);refine (CallsIn.inRound l (callsIn_wide.2 (hE _).out)).mono ?_;rintro e W6 ⟨rfl,hb6⟩;have q16:=q1.drew.later hb6;have hc6:=(Z5 q16).1;have hc6b:=(Z5 (q16.alloc (Obj.cells #[.string x.m,.int .i64 x.s] 94))).1;obtain ⟨g7,cap7,w7,hrun,hown7,hgrow⟩:=Bb hi0 hz0 hz1 hz2 hown (Iw hb6) (x.m,x.s) (by omega) (by have h1:=hb6.size;have h2:=q1.lt;rw [show W.drew.heap.size=W.heap.size from rfl] at h1;omega);rw [hli] at hrun hown7;have q17:=q16.row hgrow (hown.later (Iw hb6));obtain ⟨c7,f7⟩:=Z5 q17;go_simp;refine hK _ _ ?_;clear hK K)))
  all_goals refine wpAnyIn_done (by decide +kernel) ?_ _
  all_goals gi_wp2
  all_goals (
   obtain ⟨z1,z2,z3,z4,z5⟩:=z3p q1 hown (Iw hb6) hgrow hown7 (by omega) hb (lAd _) (w.heap.size+1) []
   exact ⟨z1,z2,z3,_,z4,by rw [HLS.out];exact z5⟩)
 case done =>
  rintro D W hD ⟨r,hb,q1,hown⟩ hK;clear hseq;obtain ⟨g0,g1⟩:=Z5 q1;have Q2:=jY q1;have HK:=jY hK;have HO:=jY hown;clear hK q1 hown;simp only [Exit.inBlock,Exit.then];go_wp2;refine Y5 rfl HK.out (results_tmp rfl _ _ _) ⟨_,rfl,Mq (ownsRow_putObj HO.out _ HK.out rfl) (by omega),Zg hb (by omega) _⟩
theorem Ks(v:Value)(xs:List Cut)(n0:Nat)(w0:World)(hG:v0q v xs n0 w0)(hs:∀ c∈xs,c.m.size<=1000)(hlen:xs.length<=1000000)(w:World)(hw:Bl w0 w) :
 Calls Tryz.prog 169 #[v] w fun e w'=>∃ r,e=.returned r/\Own35 w' w.heap.size r (xs.map Cut.ent)/\Bl w w':=by
 obtain ⟨lb,rfl,hG⟩:=hG
 have:=z7d lb xs (fun i=>(xs.take i).map Cut.ent) rfl (fun i x hx=>by
  obtain ⟨hi,rfl⟩:=lAb.1 hx
  rw [lAf hi,List.map_append];rfl) (fun i hi=>by simp;omega) hs hlen w (hG [] _ (hw.alloc hw.size _) (by intro k hk;simp at hk))
 rwa [show (xs.take xs.length).map Cut.ent=xs.map Cut.ent by rw [List.take_of_length_le (lAd _)]] at this
def Zi(p:ByteArray):List Cut:=(Qr p).getD []
def Yf(p:ByteArray):List Ent:=(Zi p).map Cut.ent
structure IsPack (p:ByteArray) (cs:List Cut):Prop where
 go:goS p cs.length 2=some cs
 count:Ye p=cs.length
 many:cs.length<=200
 chain:Chain (Ud p) (Yd p 2) cs
 each:∀ c∈cs,2<=c.fr/\2<=c.to/\c.to<=p.size/\c.fr<=p.size/\Pn p c.to=some c
 ends:Yh cs cs.length=p.size
 two:2<=p.size
 short:∀ c∈cs,c.m.size<=64
theorem Md{p:ByteArray}{cs:List Cut}(hc:Chain (Ud p) (Yd p 2) cs){c:Cut}(h:c∈cs):Yd p c.fr=some c:=by
 obtain ⟨i,hi,rfl⟩:=List.mem_iff_getElem.1 h;have hx:cs[i]?=some cs[i]:=lAa hi;have hb:=(Oo hc i (by omega)).trans hx;rw [(Xd hb).2.1];exact hb
theorem Uo{p:ByteArray}(h:Zt p=true):IsPack p (Zi p):=by
 unfold Zt at h;obtain ⟨cs,hcs⟩:=Option.isSome_iff_exists.1 h;have hp:Zi p=cs:=by unfold Zi;rw [hcs];rfl
 rw [hp];unfold Qr at hcs;have hr:=Gr p
 split at hcs
 ·next hn =>
  obtain ⟨h1,h2,h3,h4,h5⟩:=z7p _ _ _ hcs
  have htwo:2<=p.size:=by
   rcases Nat.lt_or_ge p.size 2 with h|h
   ·unfold Ye at hn;rw [if_pos h] at hn;omega
   ·exact h
  have hc:Chain (Ud p) (Yd p 2) cs:=⟨h2,h3,fun c hc=>(h4 c hc).1,by omega⟩;refine ⟨by rw [h1];exact hcs,by omega,by omega,hc,h4,?_,htwo,fun c hm=>?_⟩
  ·cases cs with
   | nil=>simpa [Yh] using h5
   | cons c l =>
     rw [List.getLast?_eq_getElem?] at h5;simp only [List.length_cons,Nat.add_sub_cancel] at h5;unfold Yh;simp only [List.length_cons];have hx:(c :: l)[l.length]?=some ((c :: l)[l.length]'(by simp)):=lAa (by simp);rw [hx] at h5 ⊢;exact h5
  ·obtain ⟨_,_,_,_,h64,_,hm2,_⟩:=Xd (Md hc hm);omega
 ·cases hcs
theorem Fg{p:ByteArray}(h:Zt p=false):Zi p=[]:=by
 unfold Zt at h;unfold Zi
 cases he:Qr p with
 | none=>rfl
 | some cs=>rw [he] at h;simp at h
theorem v0f{p:ByteArray}{cs:List Cut}(h:IsPack p cs)(i:Nat)(c:Cut)(hx:cs[i]?=some c):c.fr=Yh cs i:=by
 have hi:i<cs.length:=(lAb.1 hx).1;exact (Xd ((Oo h.chain i (by omega)).trans hx)).2.1
theorem z3w(p:ByteArray)(hp:p.size<=281474976710656)(w:World) :
 Calls Tryz.prog 143 #[.string p] w fun e w'=>∃ r,e=.returned (.tuple #[r,.int .i64 (if Zt p then 0 else 50)])/\Own35 w' w.heap.size r (Yf p)/\Bl w w':=by
 have HR:=jY (Uq p hp w)
 cases hr:Zt p with
 | false =>
   rw [hr] at HR;rw [show Yf p=[] by unfold Yf;rw [Fg hr];rfl]
   go_enter Tryz.func143,Tryz.ntmps143
   go_wp2_with fail;refine HR.out.mono ?_;rintro e w1 ⟨rfl,hb1⟩;have HB:=jY hb1;clear hb1;go_wp2;go_ret2;exact ⟨_,rfl,World.ownsRow_nil _ _ _ _,HB.out⟩
 | true =>
   rw [hr] at HR;have hk:=Uo hr;have HF:=fun w=>jY (Qb p hp (Zi p) hk.chain (fun c hc=>(hk.each c hc).2.2.1) w)
   go_enter Tryz.func143,Tryz.ntmps143
   go_wp2_with fail;refine HR.out.mono ?_;rintro e w1 ⟨rfl,hb1⟩;have HB:=jY hb1;clear hb1;go_wp2_with fail;refine (HF _).out.mono ?_;rintro e w2 ⟨v,rfl,hG,hb2⟩;have HE:=jY (Ks v (Zi p) _ w2 hG (fun c hc=>by have:=hk.short c hc;omega) (by have:=hk.many;omega) w2 (Below.refl _ _));have HB2:=jY hb2;clear hb2 hG;go_wp2_with fail;refine HE.out.mono ?_;rintro e w3 ⟨r,rfl,ho,hb3⟩;have HO:=jY ho;have HB3:=jY hb3;clear ho hb3;go_wp2;go_ret2;have s1:=HB.out.size;have s2:=HB2.out.size;exact ⟨_,rfl,Mq HO.out (by omega),HB.out.trans ((HB2.out.mono s1).trans (HB3.out.mono (by omega)))⟩
def Xw(l:List Ent)(m:ByteArray):Int:=match l.findIdx? (fun e=>decide (e.1=m)) with
 | none=>-1
 | some i=>i
theorem y1c(xs:List Cut)(m:ByteArray):A8 xs m=Xw (xs.map Cut.ent) m:=by
 unfold A8 Xw;rw [List.findIdx?_map];rfl
theorem Yq(p mem:ByteArray)(hp:p.size<=281474976710656)(w:World) :
 Calls Tryz.prog 276 #[.string p,.string mem] w fun e w'=>e=.returned (.int .i64 (Xw (Yf p) mem))/\Bl w w':=by
 cases hr:Zt p with
 | false =>
   obtain ⟨xs,hc,hx⟩:=Gq p hp
   have:=z1q p mem hp false (fun w=>jY (by rw [<- hr];exact Uq p hp w)) xs hc (fun c h=>(hx c h).2) w
   rw [show Yf p=[] by unfold Yf;rw [Fg hr];rfl];exact this
 | true =>
   have hk:=Uo hr
   have:=z1q p mem hp true (fun w=>jY (by rw [<- hr];exact Uq p hp w)) (Zi p) hk.chain (fun c hc=>(hk.each c hc).2.2.1) w
   rw [if_pos rfl,y1c] at this;exact this
def Il(p:ByteArray)(at_:Int):Option Cut × Int :=
 if Zt p then (if at_<0\/(Zi p).length<=at_ then (none,2) else ((Zi p)[at_.toNat]?,0)) else (none,50)
theorem y6a{fn:Func}{R:Ending->World->Prop}{a:Act}{W:World}{b k j:Nat}{v0 v3 v1 v2 x:Value}(hr:fn.results=#[.cell k 306,.tmp j])(hk:a.tmps.getD k undef=.pointer (some ⟨b,0,none⟩))(hj:a.tmps.getD j undef=x)(hB:Blk W b 306 #[v0,v1,v2,v3])(hd:a.defers=[])
 (hR:R (.returned (.tuple #[.agg #[v0,v1,v2,v3],x])) W):bodyPost Tryz.prog fn R .ret a W:=by
 obtain ⟨e0,e1,e2,e3,f0,f1,f2,f3⟩:=Zm hB;refine bodyPost_ret ?_ hd hR;have hk2:a.tmps[k]?.getD undef=.pointer (some ⟨b,0,none⟩):=by rw [<- Array.getD_eq_getD_getElem?];exact hk
 have hj2:a.tmps[j]?.getD undef=x:=by rw [<- Array.getD_eq_getD_getElem?];exact hj
 simp [results,hr,hk2,hj2,go_sem,e0,e1,e2,e3]
theorem v0o{fn:Func}{R:Ending->World->Prop}{a:Act}{W:World}{b k j:Nat}{v0 v1 x:Value}(hr:fn.results=#[.cell k 94,.tmp j])(hk:a.tmps.getD k undef=.pointer (some ⟨b,0,none⟩))(hj:a.tmps.getD j undef=x)(hB:Blk W b 94 #[v0,v1])(hd:a.defers=[])
 (hR:R (.returned (.tuple #[.agg #[v0,v1],x])) W):bodyPost Tryz.prog fn R .ret a W:=by
 obtain ⟨e0,e1,f0,f1⟩:=Za hB;refine bodyPost_ret ?_ hd hR;have hk2:a.tmps[k]?.getD undef=.pointer (some ⟨b,0,none⟩):=by rw [<- Array.getD_eq_getD_getElem?];exact hk
 have hj2:a.tmps[j]?.getD undef=x:=by rw [<- Array.getD_eq_getD_getElem?];exact hj
 simp [results,hr,hk2,hj2,go_sem,e0,e1]
theorem z8p(p:ByteArray)(hp:p.size<=281474976710656)(at_:Int)(w:World) :
 Calls Tryz.prog 281 #[.string p,.int .i64 at_] w fun e w'=>e=.returned (.tuple #[Oh (Il p at_).1,.int .i64 (Il p at_).2])/\Bl w w':=by
 have HR:=fun w=>jY (Uq p hp w);have HC:=fun w=>jY (Ju p hp w);have hB0:=(Below.refl w.heap.size w).alloc (lAd _) (Obj.cells #[Value.string { data:=#[] },Value.int IntKind.i64 0,Value.int IntKind.i64 0,Value.int IntKind.i64 0] 306);unfold Il
 cases hr:Zt p with
 | false =>
   rw [hr] at HR;simp only [Bool.false_eq_true,if_false];unfold Oh z2k
   go_enter Tryz.func281,Tryz.ntmps281
   go_wp2_with fail;refine (HR _).out.mono ?_;rintro e w1 ⟨rfl,hb1⟩;have k1:=(Blk.new w 306 #[Value.string { data:=#[] },Value.int IntKind.i64 0,Value.int IntKind.i64 0,Value.int IntKind.i64 0]).later hb1;have K1:=jY k1;obtain ⟨e0,e1,e2,e3,f0,f1,f2,f3⟩:=Zm k1;have HB:=jY (hB0.trans (hb1.mono hB0.size));clear hb1 k1 hB0;go_wp2;obtain ⟨g1,g2,g3⟩:=z6a (.string ⟨#[]⟩) (.int .i64 0) (.int .i64 0) (.int .i64 0) K1.out;exact y6a Tryz.results281 rfl rfl g1 rfl ⟨rfl,HB.out.trans (g3 _ (lAd _))⟩
 | true =>
   rw [hr] at HR;have hk:=Uo hr;simp only [if_true];rw [hk.count] at HC;have hmany:=hk.many
   by_cases hat:at_<0\/((Zi p).length:Int)<=at_
   ·rw [if_pos hat];simp only [];unfold Oh z2k;generalize hlen:(Zi p).length=len at *
    go_enter Tryz.func281,Tryz.ntmps281
    go_wp2_with fail;refine (HR _).out.mono ?_;rintro e w1 ⟨rfl,hb1⟩;have k1:=(Blk.new w 306 #[Value.string { data:=#[] },Value.int IntKind.i64 0,Value.int IntKind.i64 0,Value.int IntKind.i64 0]).later hb1;have hB1:=hB0.trans (hb1.mono hB0.size);clear hb1
    by_cases h0:at_<0
    ·have K1:=jY k1;obtain ⟨e0,e1,e2,e3,f0,f1,f2,f3⟩:=Zm k1;have HB:=jY hB1;clear k1 hB0 hB1;go_wp2_with fail;obtain ⟨g1,g2,g3⟩:=z6a (.string ⟨#[]⟩) (.int .i64 0) (.int .i64 0) (.int .i64 0) K1.out;exact y6a Tryz.results281 rfl rfl g1 rfl ⟨rfl,HB.out.trans (g3 _ (lAd _))⟩
    ·go_wp2_with fail;refine (HC _).out.mono ?_;rintro e w2 ⟨rfl,hb2⟩;have k2:=k1.later hb2;have K1:=jY k2;obtain ⟨e0,e1,e2,e3,f0,f1,f2,f3⟩:=Zm k2;have HB:=jY (hB1.trans (hb2.mono hB1.size));have hge:(len:Int)<=at_:=by omega
     clear k1 k2 hB0 hB1 hb2;go_wp2;obtain ⟨g1,g2,g3⟩:=z6a (.string ⟨#[]⟩) (.int .i64 0) (.int .i64 0) (.int .i64 0) K1.out;exact y6a Tryz.results281 rfl rfl g1 rfl ⟨rfl,HB.out.trans (g3 _ (lAd _))⟩
   ·rw [if_neg hat];simp only [];obtain ⟨k,rfl⟩:∃ k:Nat,at_=(k:Int):=⟨at_.toNat,by omega⟩;have hkl:k<(Zi p).length:=by omega
    have hx:(Zi p)[k]?=some ((Zi p)[k]'hkl):=lAa hkl;rw [Int.toNat_natCast,hx];have HN:=fun w=>jY (As p hp (Zi p) hk.chain (fun c hc=>(hk.each c hc).2.2.1) k (by omega) _ (fun c hc=>by rw [hx] at hc;cases hc;rfl) (fun hc=>by rw [hx] at hc;cases hc) w);generalize (Zi p)[k]'hkl=c at *;generalize hlen:(Zi p).length=len at *;unfold Oh Cut.val at *;have hk9:(k:Int)<len:=by omega
    have hk8:(0:Int)<=k:=by omega
    clear hat hx
    go_enter Tryz.func281,Tryz.ntmps281
    go_wp2_with fail;refine (HR _).out.mono ?_;rintro e w1 ⟨rfl,hb1⟩;have k1:=(Blk.new w 306 #[Value.string { data:=#[] },Value.int IntKind.i64 0,Value.int IntKind.i64 0,Value.int IntKind.i64 0]).later hb1;have hB1:=hB0.trans (hb1.mono hB0.size);clear hb1;go_wp2_with fail;refine (HC _).out.mono ?_;rintro e w2 ⟨rfl,hb2⟩;have k2:=k1.later hb2;have hB2:=hB1.trans (hb2.mono hB1.size);clear hb2;go_wp2_with fail;refine (HN _).out.mono ?_;rintro e w3 ⟨rfl,hb3⟩;have k3:=k2.later hb3;have K1:=jY k3;obtain ⟨e0,e1,e2,e3,f0,f1,f2,f3⟩:=Zm k3;have HB:=jY (hB2.trans (hb3.mono hB2.size));clear k1 k2 k3 hB0 hB1 hB2 hb3;go_wp2;obtain ⟨g1,g2,g3⟩:=z6a (.string c.m) (.int .i64 c.s) (.int .i64 c.fr) (.int .i64 c.to) K1.out;exact y6a Tryz.results281 rfl rfl g1 rfl ⟨rfl,HB.out.trans (g3 _ (lAd _))⟩
def Ke(p:ByteArray)(at_:Int):Ent × Int :=
 if Zt p then (if at_<0\/(Yf p).length<=at_ then ((⟨#[]⟩,0),2) else ((Yf p).getD at_.toNat (⟨#[]⟩,0),0)) else ((⟨#[]⟩,0),50)
theorem x2i(p:ByteArray)(at_:Int):∃ c:Cut,Oh (Il p at_).1=c.val/\c.ent=(Ke p at_).1/\(Il p at_).2=(Ke p at_).2/\c.m.size<=64:=by
 have hno:Oh none=(⟨⟨#[]⟩,0,0,0⟩:Cut).val:=rfl;unfold Il Ke
 cases hr:Zt p with
 | false=>exact ⟨_,hno,rfl,rfl,by decide⟩
 | true =>
   have hk:=Uo hr;simp only [if_true];rw [show (Yf p).length=(Zi p).length by simp [Yf]]
   split
   ·exact ⟨_,hno,rfl,rfl,by decide⟩
   ·next hat =>
    have hkl:at_.toNat<(Zi p).length:=by omega
    have hx:(Zi p)[at_.toNat]?=some ((Zi p)[at_.toNat]'hkl):=lAa hkl;refine ⟨(Zi p)[at_.toNat]'hkl,by rw [hx];rfl,?_,rfl,hk.short _ (List.getElem_mem _)⟩;unfold Yf;simp [List.getD_eq_getElem?_getD,hx]
theorem Gy(p:ByteArray)(hp:p.size<=281474976710656)(at_:Int)(w:World) :
 Calls Tryz.prog 280 #[.string p,.int .i64 at_] w fun e w'=>e=.returned (.tuple #[.agg #[.string (Ke p at_).1.1,.int .i64 (Ke p at_).1.2],.int .i64 (Ke p at_).2])/\Bl w w':=by
 have HP:=jY (z8p p hp at_);obtain ⟨c,h1,h2,h3,h4⟩:=x2i p at_;rw [h1,h3] at HP;rw [<- h2];generalize (Ke p at_).2=er at *;have HE:=fun w=>jY (z1o c (by omega) w);clear h1 h2 h3 h4;unfold Cut.val at *;unfold Cut.ent;simp only []
 go_enter Tryz.func280,Tryz.ntmps280
 go_wp2_with fail;refine (HP.out _).mono ?_;rintro e w1 ⟨rfl,hb1⟩;have k1:=(Blk.new w 94 #[Value.string { data:=#[] },Value.int IntKind.i64 0]).later hb1;have hB0:=(Below.refl w.heap.size w).alloc (lAd _) (Obj.cells #[Value.string { data:=#[] },Value.int IntKind.i64 0] 94);have hB1:=hB0.trans (hb1.mono hB0.size);clear hb1;go_wp2_with fail;refine (HE _).out.mono ?_;rintro e w2 ⟨rfl,hb2⟩;have k2:=(k1.alloc (Obj.cells #[Value.string c.m,Value.int IntKind.i64 c.s,Value.int IntKind.i64 c.fr,Value.int IntKind.i64 c.to] 306)).later hb2;have K2:=jY k2;obtain ⟨e0,e1,f0,f1⟩:=Za k2;have HB:=jY ((hB1.alloc hB1.size (Obj.cells #[Value.string c.m,Value.int IntKind.i64 c.s,Value.int IntKind.i64 c.fr,Value.int IntKind.i64 c.to] 306)).trans (hb2.mono (by have:=hB1.size;simp;omega)));clear k1 k2 hB0 hB1 hb2;go_wp2;obtain ⟨g1,g2,g3⟩:=set2 (.string c.m) (.int .i64 c.s) K2.out;exact v0o Tryz.results280 rfl rfl g1 rfl ⟨rfl,HB.out.trans (g3 _ (lAd _))⟩
end Go.Proofs.YtcklcmafohlflaaGreatDoor.Pk

/- Texts of one kind in one: StBase, StLess, StIns, StHeap, StHeap2, StPartE, StPart, StOrd, StPivot, StPins, StPdq, StSlice, SpKeysM, ZSame, PkRefIns, SkRefLess, ZRef, ZRefOps, ZRefAdd, ZRefOne, SpRef, SpWith, SpRefDel, ZBytes, ZSee, SpSum, SpSize, SpRefMake, SpRefTidy, SpRefRen, SpRefTouch, SpRefPut, SpSortR. -/
import Derived.Test.YtmehfohpjigmmaaGreatDoorQSpSet25
import Derived.Deep.DrawnRows
set_option maxRecDepth 200000
set_option maxHeartbeats 8000000
namespace Go.Proofs.YtmehfohpjigmmaaGreatDoor.St
open Zc
open Go.RowKit Go.Shelf Go.Sort Go.Lib
attribute [local go_sem] Oper.semAt_some
abbrev Kt:=List UInt8
section
variable {α:Type} [Inhabited α] {enc:α->Value} {w w1 W:World} {blk off:Nat} {d dk:Array α}
end
section
variable {recv:Value} {sf:Nat} {sb:Array Value} {blk off a b:Nat} {d:Array Kt} {w:World}
end
section
variable {recv:Value} {sf:Nat} {sb:Array Value} {blk off a b:Nat} {d:Array Kt} {w:World}
end
section
variable {recv:Value} {sf:Nat} {sb:Array Value} {blk off a b:Nat} {d:Array Kt} {w:World}
end
section
variable {recv:Value} {sf:Nat} {sb:Array Value} {blk off a b pv:Nat} {d:Array Kt} {w:World}
end
section
variable {recv:Value} {sf:Nat} {sb:Array Value} {blk off a b pv:Nat} {d:Array Kt} {w:World}
end
section
variable {recv:Value} {sf:Nat} {sb:Array Value} {blk off a b c cb s:Nat} {d:Array Kt} {w0 W:World}
end
section
variable {recv:Value} {sf:Nat} {sb:Array Value} {blk off a b:Nat} {d:Array Kt} {W:World}
end
section
variable {recv:Value} {sf:Nat} {sb:Array Value} {blk off a b:Nat} {d:Array Kt} {w:World}
end
section
variable {recv:Value} {sf:Nat} {sb:Array Value} {blk off size:Nat}
end
noncomputable def y5q:TypeInfo:=(Tryz.prog.info? 42).get (by kernel_rfl)
noncomputable def z9e:TypeInfo:=(Tryz.prog.info? 9).get (by kernel_rfl)
theorem y5o(n:Nat)(h2:2<=n):Lib.swapperK n z9e 24=4:=by
 have a:z9e.hasPointers=true:=by kernel_rfl
 have b:z9e.bytes=16:=by kernel_rfl
 have c:(n==0)=false:=by simp;omega
 have d:(n==1)=false:=by simp;omega
 simp [Lib.swapperK,a,b,c,d]
theorem y5b (n : Nat) : ∃ f, Tryz.prog.funcs.findIdx? (·.name == "internal/reflectlite" ++ ".Swapper$" ++ toString (Lib.swapperK n z9e 24)) = some f := by
 by_cases h0:n=0
 ·subst h0;exact ⟨89,by kernel_rfl⟩
 by_cases h1:n=1
 ·subst h1;exact ⟨90,by kernel_rfl⟩
 rw [y5o n (by omega)];exact ⟨92,by kernel_rfl⟩
section
variable {g cap:Nat} {w:World} {ss:List Kt}
theorem z1m(p:Option Addr)(n c:Nat)(h1:n<=1)(lf:Fn)(la lb:Array Value)(w:World) :
 Calls Tryz.prog 35 #[.iface 42 (.slice p n c),.func lf la lb] w fun e w'=>e=.returned (.tuple #[])/\∃ os,w'=Sort.grow w os:=by
 obtain ⟨f,hf⟩:=y5b n;exact Any.sort_Slice_tiny Tryz.laysGg6 42 9 y5q z9e (by kernel_rfl) (by kernel_rfl) (by kernel_rfl) (by kernel_rfl) 24 (fun _=>by kernel_rfl) p n c h1 f hf lf la lb w
end
end Go.Proofs.YtmehfohpjigmmaaGreatDoor.St
namespace Go.Proofs.YtmehfohpjigmmaaGreatDoor
open Zc (Ent Ext KeepC Y5 Z7 Z9 Yw Y1 Za Zl Ya Zp Z6 Zo Z0 Zf)
open Go.RowKit Go.Shelf Go.Sort Sk
attribute [local go_sem] Oper.semAt_some
theorem z3e(w:World)(os:Array Obj):Bl w (Sort.grow w os):=⟨rfl,rfl,rfl,by rw [Sort.size_grow];omega,fun k hk=>Sort.heap_grow_old _ _ hk⟩
theorem Dc.Dt.all_nil(w:World):Calls Tryz.prog 34 #[.pointer none] w fun e w'=>∃ u,e=.returned u/\Own9 w' w.heap.size u []/\Bl w w':=by
 have HS:=jY (Dc.Dt.Bd 0 (by omega) w)
 go_enter Tryz.func34,Tryz.ntmps34
 go_wp2_with fail;refine HS.out.mono ?_;rintro e w1 ⟨u,rfl,hu,hb⟩;have HU:=jY hu;have HB:=jY hb;clear hu hb HS
 go_upto_region 2 with fail
 go_loopw [3,4] (fun lv cv wr=>lv=u/\cv=.int .u32 0/\wr=w1) (fun _ _ _=>0)
 case atStart=>exact ⟨rfl,rfl,rfl⟩
 case round =>
  obtain ⟨rfl,rfl,rfl⟩:=hrel;go_wp2;go_ret;exact ⟨_,rfl,HU.out,HB.out⟩
section
variable {w w':World} {p sd c:Nat} {S:Nat->Prop} {en mn:Int} {L:List Th}
theorem z3v(w:World):Calls Tryz.prog 17 #[.pointer none] w fun e w'=>∃ u,e=.returned u/\Dc.Dt.Own9 w' w.heap.size u []/\Bl w w':=by
 have HT:=jY (Ub w);have HA:=jY (Dc.Dt.all_nil w);have HS:=jY (fun W p n c h (lf:Fn) (la lb:Array Value)=>St.z1m p n c h lf la lb W)
 go_enter Tryz.func17,Tryz.ntmps17
 go_wp2_with fail;refine HT.out.mono ?_;rintro e w1 ⟨rfl,rfl⟩;go_wp2_with fail;refine HA.out.mono ?_;rintro e w2 ⟨u,rfl,hu,hb⟩;have HB:=jY hb
 obtain ⟨p,n,cp,rfl,hn⟩:∃ p n cp,u=.slice p n cp/\n<=1:=by
  rcases hu.2 with ⟨h,_⟩|⟨g,cap2,cur,h,_⟩
  ·exact ⟨_,_,_,h,by omega⟩
  ·exact ⟨_,_,_,h,by simp⟩
 have HU:=jY (fun W (h:Bl w2 W)=>hu.below h);clear hb HT HA hu;go_wp2_with fail;refine (HS.out _ _ _ _ hn _ _ _).mono ?_;rintro e w3 ⟨rfl,os,rfl⟩;have hb3:=z3e w2 os;have hfin:=And.intro (HU.out _ hb3) (HB.out.trans (hb3.mono HB.out.size));go_wp2;go_ret;exact ⟨_,rfl,hfin⟩
end
end Go.Proofs.YtmehfohpjigmmaaGreatDoor
namespace Go.Proofs.YtmehfohpjigmmaaGreatDoor
open Zc (Ent Ext KeepC Y5 Z7 Z9 Yw Y1 Za Zl Ya Zp Z6 Zo Z0 Zf)
open Go.RowKit Go.Shelf Sk
attribute [local go_sem] Oper.semAt_some
end Go.Proofs.YtmehfohpjigmmaaGreatDoor
namespace Go.Proofs.YtmehfohpjigmmaaGreatDoor.Pk
open Zc
open Go.RowKit Go.Shelf
attribute [local go_sem] Oper.semAt_some
end Go.Proofs.YtmehfohpjigmmaaGreatDoor.Pk
namespace Go.Proofs.YtmehfohpjigmmaaGreatDoor.Sk
open Zc
open Go.RowKit Go.Shelf
attribute [local go_sem] Oper.semAt_some
end Go.Proofs.YtmehfohpjigmmaaGreatDoor.Sk
namespace Go.Proofs.YtmehfohpjigmmaaGreatDoor
open Zc (Ent Ext KeepC Y5 Z7 Z9 Yw Y1 Za Zl Ya Zp Z6 Zo Z0 Zf)
open Go.RowKit Go.Shelf Sk
attribute [local go_sem] Oper.semAt_some
structure Rt extends It where
 r:Nat
section
variable {W W' w w' w1 w2:World} {rp n0 n1 sd:Nat} {rv v:Value} {en mn mx:Int} {R R':List Rt} {S S1:Nat->Prop} {x:Rt}
end
section
variable {W W':World} {v r:Value} {X L:List Rt} {n0:Nat} {x:Rt}
end
section
variable {w w1 w':World} {rp sd:Nat} {u:Value} {en mn mx:Int} {R R':List Rt} {S:Nat->Prop}
end
def szL:List En->Nat
 | []=>0
 | e :: r=>64+2*e.1.size+szL r
theorem z1u(a b:List En):szL (a++b)=szL a+szL b:=by
 induction a with
 | nil=>simp [szL]
 | cons e r ih=>simp only [List.cons_append,szL,ih];omega
theorem z9j{E:List En}{i:Nat}{x:En}(h:E[i]?=some x):szL (E.take (i+1))=szL (E.take i)+(64+2*x.1.size):=by
 obtain ⟨hi,he⟩:=List.getElem?_eq_some_iff.1 h;rw [List.take_succ_eq_append_getElem hi,z1u,he];simp [szL]
theorem z9i{E:List En}(h:∀ e∈E,e.1.size<=64):szL E<=192*E.length:=by
 induction E with
 | nil=>simp [szL]
 | cons e r ih =>
   have h1:=h e (by simp);have h2:=ih fun e he=>h e (by simp [he]);simp only [szL,List.length_cons];omega
variable {w w' w1 w2:World} {s b l p q sd c:Nat} {D D1:Nat->Prop} {L L1:List Nd} {m:ByteArray->Option Int} {n:Dc.Sh} {le lm:Int} {E:List En}
theorem Aa(fv:Nat)(E:List En)(hl:E.length<=1000000)(hz:∀ e∈E,e.1.size<=64)(w:World)(HT:∀ W,Bl w W->Hid (Calls Tryz.prog 141 #[.iface 211 (.pointer (some ⟨fv,0,none⟩))] W (y4e W E))) :
 Calls Tryz.prog 274 #[.pointer (some ⟨fv,0,none⟩)] w fun e w'=>e=.returned (.int .i64 (szL E))/\Bl w w':=by
 refine (callsIn_wide (n:=6)).1 (callsIn_of_wp_marks Tryz.func274 rfl trivial ?_ rfl);refine wpIn_wide.2 ?_;simp only [Tryz.ntmps274,List.size_toArray,List.length_cons,List.length_nil,Nat.reduceAdd,Nat.reduceSub,Array.replicate_succ,Array.replicate_zero,List.push_toArray,List.append_toArray,List.nil_append,List.cons_append];have hB0:Bl w (w.alloc (Obj.cells #[Value.int .i64 0] 3)):=Z5 _ _;have k0:=Blk.new w 3 #[Value.int .i64 0];have HTA:=HT _ hB0;go_wp2_with fail;have hsz:(w.alloc (Obj.cells #[Value.int .i64 0] 3)).heap.size=w.heap.size+1:=by simp
 generalize w.alloc (Obj.cells #[Value.int .i64 0] 3)=w1 at *;refine HTA.out.mono ?_;rintro e w2 ⟨bx,r,rfl,hbx,hbs,hr,hb2⟩;have k0:=k0.later hb2;have hB:=hB0.trans (hb2.mono hB0.size);have hseq:=z9r E (by omega) r w1.heap.size bx [w.heap.size] w2 hr (by intro k hk;simp at hk;omega) hbx;have hz2:=hb2.size;have HZ:=jY hz;have HLL:=jY (show ∀ i,szL (E.take i)<=192*E.length from fun i=>Nat.le_trans (z9i fun e he=>hz e (List.mem_of_mem_take he)) (by simp only [List.length_take];omega));clear HT HTA hB0 hr hbx hz;go_wp2_with fail
 refine (wpIn_wide (n:=6)).1 (Zc.Xi (gf:=170) (lb:=#[.pointer (some ⟨bx,0,none⟩)]) (encs:=y0g) (xs:=E) (L:=[w.heap.size]) rfl (enters_of Tryz.func170 (by kernel_rfl) rfl) hseq (fun _ _=>rfl)
  (fun i W=>Bl w W/\Blk W w.heap.size 3 #[.int .i64 (szL (E.take i))])
  (fun _ _ _=>False)
  ?hI ?hIx ?h0 (fun i x a' W=>∃ q,(∃ u,a'={ tmps:=#[.pointer (some ⟨fv,0,none⟩),undef,.int .i64 0,.pointer (some ⟨w.heap.size,0,none⟩),.pointer (some ⟨q,0,none⟩),.pointer (some ⟨fv,0,none⟩),.iface 211 (.pointer (some ⟨fv,0,none⟩)),
   .func (.func 170) #[] #[.pointer (some ⟨bx,0,none⟩)],u,undef,undef,undef,undef,undef,undef,undef,undef],defers:=[] })/\Blk W q 107 #[.string x.1,.int .i64 x.2])
  (fun _ _ _=>Zo fun _=>(Z0 _ _).and (Zb _ _ _ _)) ?assign ?body ?done ?stop)
 case hI=>exact (Z6 _ w (by omega)).and (Zb _ _ _ _)
 case hIx=>exact fun c=>Z0 _ _
 case h0=>exact ⟨hB,k0⟩
 case assign =>
  rintro l i ⟨xm,xs⟩ W K hx' ⟨hb,q0⟩ hK;clear hseq;unfold y0g;gi_wp2;refine hK _ _ ((KeepsOthers.alloc _ _).from _) (Zc.KeepC.of_below ((Below.refl _ _).alloc (Nat.le_refl _) _)) ⟨hb.alloc hb.size _,q0.alloc _⟩ ⟨_,⟨_,rfl⟩,Blk.new _ _ _⟩
 case body =>
  rintro l i ⟨xm,xs⟩ a' W hx' ⟨hb,q0⟩ ⟨q,⟨u,rfl⟩,q6⟩;clear hseq;simp only at q6;have hxm:xm.size<=64:=HZ.out _ (List.mem_of_getElem? hx');have hst:=z9j hx';have hle:=HLL.out i;simp only at hst;obtain ⟨c1,c2⟩:=Z4 q0;obtain ⟨d0,d1,_⟩:=Zd q6;have Q0:=jY q0;have HB:=jY hb;have HST:=jY hst;generalize szL (E.take i)=k at *;clear q0 q6 hx' hb hst;gi_wp2;refine ⟨(KeepsOthers.setCell _ _ _).from _,Zc.KeepC.set _ _ _ _ (by simp),HB.out.setCell (p:=⟨w.heap.size,0,none⟩) (Nat.le_refl _) _,?_⟩;rw [HST.out]
  have:=Q0.out.set 0 (.int .i64 ((k+(64+2*xm.size):Nat):Int))
  simp only [Int.natCast_add,Int.natCast_mul] at this ⊢;exact this
 case done =>
  rintro D W hD ⟨hb,q0⟩ hK;rw [List.take_length] at q0;clear hseq;obtain ⟨c1,c2⟩:=Z4 q0;have HK:=jY hK;have HB:=jY hb;clear hK q0 hb;simp only [Exit.inBlock,Exit.then];go_wp2;exact Zc.Zp (v:=.int .i64 (szL E)) rfl HK.out (by simp [results,Tryz.results274,go_sem]) ⟨rfl,Z9 HB.out (by omega) _⟩
 case stop =>
  rintro D c j W hD hI hK;exact hI.elim
theorem z9z(h:LSet w s l p q D L m n le lm sd c E):Calls Tryz.prog 38 #[.pointer (some ⟨s,0,none⟩)] w fun e w'=>e=.returned (.int .i64 (szL E))/\Bl w w':=by
 obtain ⟨⟨e0,_⟩,_⟩:=Zh h.blk;have hlen:=h.len;have hln:=h.lenN;have HB:=jY (Aa l E (by omega) (fun e he=>(h.good.each e he).1) w fun W hb=>jY (by have:=y3g (h.li.later hb) hln;rw [h.en] at this;exact this));clear h
 go_enter Tryz.func38,Tryz.ntmps38
 go_wp2_with fail;refine HB.out.mono ?_;rintro e w1 ⟨rfl,hb⟩;go_wp2_with fail;go_ret;exact ⟨rfl,hb⟩
def szS(isL:Bool)(E:List En):Nat:=if isL then szL E else (Pk.Zv E).size
theorem z4u{S:Nat->Prop}{isL:Bool}(h:SetIs w s S isL le lm c E):Calls Tryz.prog 38 #[.pointer (some ⟨s,0,none⟩)] w fun e w'=>e=.returned (.int .i64 (szS isL E))/\Bl w w':=by
 obtain ⟨sd,⟨rfl,b,h,_⟩|⟨rfl,l,p,q,D,L,m,n,h,_⟩⟩:=h
 ·exact (y0a h).mono fun _ _ ⟨he,hb⟩=>⟨he,by rw [hb];exact Below.refl _ _⟩
 ·exact z9z h
theorem y3y{isL:Bool}{E:List En}(hE:E.length<=1000)(hz:∀ e∈E,e.1.size<=64)(i:Nat):szS isL (E.take i)<=200000:=by
 have hz2:∀ e∈E.take i,e.1.size<=64:=fun e he=>hz e (List.mem_of_mem_take he);have hl:(E.take i).length<=1000:=by simp;omega
 unfold szS
 split
 ·have:=z9i hz2;omega
 ·have:=Pk.Uy hz2 hl;omega
def szI(x:It):List Nat:=[48,x.key.size,szS x.isL x.E]
def Xt(I:List It):List Nat:=64 :: I.flatMap szI
def Or(n:Nat):Value:=.int .i64 n
def I3(I:List It):Nat:=(Xt I).sum
theorem y4o:(Tryz.prog.info? 3).map (fun i=>(i.zero,i.size,i.bytes))=some (some (.int .i64 0),1,8):=by kernel_rfl
theorem G6{W W':World}{n0 n:Nat}{rv:Value}{xs:List Value}(h:W.ownsRow n0 3 1 rv n xs)(hb:∀ k,rv.ownBlock=some k->W'.heap[k]?=W.heap[k]?):W'.ownsRow n0 3 1 rv n xs:=by
 refine ⟨h.1,?_⟩;rcases h.2 with hn|⟨g,cap,cur,rfl,hb',hg,rest⟩
 ·exact .inl hn
 ·exact .inr ⟨g,cap,cur,rfl,hb',(hb g rfl).trans hg,rest⟩
theorem Un{W W':World}{n0 n:Nat}{rv:Value}{xs:List Value}(h:W.ownsRow n0 3 1 rv n xs)(hb:Bl W W'):W'.ownsRow n0 3 1 rv n xs:=G6 h fun k hk=>hb.block k (h.lt k hk).2
theorem Ot{W:World}{n0 n:Nat}{rv:Value}{xs:List Value}(h:W.ownsRow n0 3 1 rv n xs){k:Nat}(hk:rv.ownBlock=some k):∃ c,Blk W k 3 c:=by
 rcases h.2 with ⟨rfl,_⟩|⟨g,cap,cur,rfl,_,hg,_⟩
 ·simp [Value.ownBlock] at hk
 ·simp [Value.ownBlock] at hk;subst hk;exact ⟨cur,hg⟩
theorem z6b{W W6:World}{n0 n:Nat}{rv:Value}{xs:List Value}(hr:W.ownsRow n0 3 1 rv n xs)(hb:Bl W W6)(a b c:Int)(hn:n<=1000000)(h0:n0<=W.heap.size) :
 ∃ gg cap' W7,(Builtin.append_ #[80,80] 80 #[rv,.slice (some ⟨W6.heap.size,0,none⟩) 3 3]).run Tryz.prog (W6.alloc (.cells #[.int .i64 a,.int .i64 b,.int .i64 c] 3))=.ok (.slice (some ⟨gg,0,none⟩) (n+3) cap') W7 /\
  W7.ownsRow n0 3 1 (.slice (some ⟨gg,0,none⟩) (n+3) cap') (n+3) (xs++[.int .i64 a,.int .i64 b,.int .i64 c])/\(W6.alloc (.cells #[.int .i64 a,.int .i64 b,.int .i64 c] 3)).grownBy W7 rv.ownBlock:=by
 obtain ⟨i0,hi0,hz0,hz1,hz2⟩:=info_parts y4o;have hB:Bl W (W6.alloc (.cells #[.int .i64 a,.int .i64 b,.int .i64 c] 3)):=hb.trans ((Z5 W6 _).mono hb.size)
 obtain ⟨v',w',hrun,r1,r2,r3,r4⟩:=run_append_own_at (P:=Tryz.prog) (W6.alloc (.cells #[.int .i64 a,.int .i64 b,.int .i64 c] 3)) n0 80 80 3 i0 _ 1 8 Tryz.underlying80 hi0 hz0 hz1 hz2 rfl (by decide) rv _ _ (Un hr hB) ⟨W6.heap.size,0,none⟩ 3 3 [.int .i64 a,.int .i64 b,.int .i64 c] rfl
  (World.news_of_block (cs:=#[.int .i64 a,.int .i64 b,.int .i64 c]) (t:=3) (fr:=(0,0)) (heap_alloc_new _ _)) (fun u hu=>by simp at hu;rcases hu with rfl|rfl|rfl <;> rfl) (by unfold maxLen;omega) (by omega) (Nat.le_trans h0 hB.size)
 rcases r1.2 with ⟨rfl,h0⟩|⟨gg,cap',cur,rfl,_⟩
 ·omega
 ·exact ⟨gg,cap',w',hrun,r1,r2⟩
theorem z9h:∀ (l:List Nat) (b:Nat),(∀ x∈l,x<=b)->∀ k,(l.take k).sum<=b*l.length
 | [],b,_,k=>by simp
 | x :: l,b,h,0=>by simp
 | x :: l,b,h,k+1=>by
   have h1:=z9h l b (fun y hy=>h y (by simp [hy])) k;have h2:=h x (by simp);rw [List.take_succ_cons,List.sum_cons,List.length_cons,Nat.mul_succ];omega
theorem J5{n0:Nat}(l:List Nat)(hl:l.length<=100000)(hb:∀ x∈l,x<=1000000)(rv:Value)(w:World)(hr:w.ownsRow n0 3 1 rv l.length (l.map Or)) :
 Calls Tryz.prog 39 #[rv] w fun e w'=>e=.returned (.int .i64 (l.sum:Nat))/\w'=w:=by
 have hform:∃ A cap,rv=.slice A l.length cap/\∀ i x,l[i]?=some x->∃ g,A=some ⟨g,0,none⟩/\w.cell? ⟨g,i,none⟩=some (Or x):=by
  have hO:=hr;rcases hr.2 with ⟨rfl,h0⟩|⟨g,cap,cur,rfl,_,hg,hlc,hm,_⟩
  ·have:l=[]:=List.eq_nil_of_length_eq_zero h0
   subst this;exact ⟨none,0,rfl,fun i x hx=>by simp at hx⟩
  ·refine ⟨some ⟨g,0,none⟩,cap,rfl,fun i x hx=>⟨g,rfl,?_⟩⟩;obtain ⟨hi,_⟩:=List.getElem?_eq_some_iff.1 hx;rw [World.ownsRow.cellAt (base:=n0) (e:=3) (size:=1) (g:=g) (n:=l.length) (cap:=cap) (xs:=l.map Or) hO i (by omega),List.getElem?_map,hx];rfl
 obtain ⟨A,cap,rfl,hc⟩:=hform;have HC:=jY hc;have HS:=jY (fun k=>z9h l 1000000 hb k)
 have HT:=jY (fun k x (h:l[k]?=some x)=>show (l.take (k+1)).sum=(l.take k).sum+x from by
  obtain ⟨hk,he⟩:=List.getElem?_eq_some_iff.1 h;rw [List.take_succ_eq_append_getElem hk,List.sum_append,he]
  simp)
 have HALL:=jY (show (l.take l.length).sum=l.sum by rw [List.take_length]);clear hc hb hr
 go_enter Tryz.func39,Tryz.ntmps39
 go_wp2
 go_loopw [3,8] (fun s i wr=>∃ (k:Nat),i=.int .i64 k/\k<=l.length/\s=.int .i64 ((l.take k).sum:Nat)/\wr=w) (fun _ i _=>l.length-(intOf i).toNat)
 case atStart=>exact ⟨0,rfl,by omega,rfl,rfl⟩
 case round =>
  obtain ⟨k,rfl,hk,rfl,rfl⟩:=hrel;have hle:=HS.out k
  by_cases hlt:k<l.length
  ·have hx:l[k]?=some l[k]:=List.getElem?_eq_getElem hlt;have hle2:=HS.out (k+1);have hst:=HT.out k _ hx;rw [hst] at hle2;have HST:=jY hst;obtain ⟨g,rfl,g0⟩:=HC.out k _ hx;unfold Or at g0;generalize l[k]=x at *;generalize (l.take k).sum=m at *;have hk2:(k:Int)<l.length:=by omega
   clear hx hst;go_wp2_with fail;exact ⟨⟨k+1,by go_num,hlt,by rw [HST.out];simp,trivial⟩,by simp [intOf];omega⟩
  ·obtain rfl:k=l.length:=by omega
   rw [HALL.out] at *;go_wp2;go_ret;exact ⟨rfl,rfl⟩
theorem Q6{P:Program}{o:Oper}{a:Act}{w w':World}{K:Act->World->Prop}{Q:Exit->Act->World->Prop}{v xv v':Value}(s x:Operand)(t u:TypeId)
 (ho:o.op=Op.call { callee:=Callee.builtin Builtin.append,args:=#[s,x],argTypes:=#[t,u] }) (hs:a.eval s=v) (hx:a.eval x=xv) (hrun:(Builtin.append_ #[t,u] o.type #[v,xv]).run P w=.ok v' w')
 (h:K (a.put o.dst v') w'):o.wp P a w K Q:=by
 unfold Oper.wp;simp [execOp,ho,resolve,invoke,builtin,hs,hx,hrun,Result.andThen];exact h
theorem y3x{x:It}(h1:x.key.size<=64)(h2:x.E.length<=1000)(h3:∀ e∈x.E,e.1.size<=64):∀ n∈szI x,n<=1000000:=by
 intro n hn;unfold szI at hn;simp only [List.mem_cons,List.not_mem_nil,or_false] at hn;rcases hn with rfl|rfl|rfl
 ·omega
 ·omega
 ·have:=y3y (isL:=x.isL) h2 h3 x.E.length
  rw [List.take_length] at this;omega
theorem z1t{L:List Th}{i:Nat}{t:Th}(h:L[i]?=some t):Xt (itl (L.take (i+1)))=Xt (itl (L.take i))++szI t.toIt:=by
 obtain ⟨hi,he⟩:=List.getElem?_eq_some_iff.1 h;unfold Xt itl;rw [List.take_succ_eq_append_getElem hi,he,List.map_append,List.flatMap_append];simp
theorem Gv(L:List Th):(Xt (itl L)).length=1+3*L.length:=by
 unfold Xt itl
 induction L with
 | nil=>rfl
 | cons a r ih =>
   simp only [List.map_cons,List.flatMap_cons,List.length_cons,List.length_append] at ih ⊢;simp only [szI,List.length_cons,List.length_nil];omega
theorem Vz{P:Program}{md:Region.Mode}{ops:Array Oper}{Q:Exit->Act->World->Prop}{S:World->Prop}{fuel:Nat}{l:Array Bool}{i:Nat}{o:Oper}{a:Act}{w:World}(ho:ops[i]?=some o)(hw:Region.wanted o (yielded ops a.tmps)=true)
 (h:∀ K':Act->World->Prop,(∀ a' w',S w'->wpAnyH P md ops Q S fuel l a' w'->K' a' w')->o.wp P a w K' Q):wpOp P ops Q i (fun a' w'=>S w'/\wpAnyH P md ops Q S fuel l a' w') a w:=by
 unfold wpOp;simp only [ho];rw [if_pos hw];exact .inl (h _ fun _ _ h1 h2=>⟨h1,h2⟩)
def Gy(w:World)(B F:Nat)(L:List Th)(i:Nat)(W W':World):Prop:=KeepsFrom B W W'/\Zc.KeepC Zr.itT [F] W W'/\∃ rv,Bl w W'/\Blk W' F 80 #[rv]/\W'.ownsRow w.heap.size 3 1 rv (Xt (itl (L.take (i+1)))).length ((Xt (itl (L.take (i+1)))).map Or)
def y2r(F:Nat)(t:Th)(a:Act):Prop:=∃ u0 u1 u2 u6 u7 u8 u9 u10 u11 u12 u13 u14 u15 u16 u17 u18 u19 u20 u21 u22 u23 u24,a={ tmps:=#[u0,u1,u2,.pointer (some ⟨F,0,none⟩),.string t.key,Yb t,u6,u7,u8,u9,u10,u11,u12,u13,u14,u15,u16,u17,u18,u19,u20,u21,u22,u23,u24],defers:=[] }
section
variable {w:World} {p c sd:Nat} {S:Nat->Prop} {en mn:Int} {L:List Th}
theorem y2a(h:SpSt w p en mn sd c L S)(hc:c<=1000):Calls Tryz.prog 18 #[.pointer (some ⟨p,0,none⟩)] w fun e w'=>e=.returned (.int .i64 (I3 (itl L):Nat))/\Bl w w':=by
 have hlen:=h.len;have HA:=fun W=>jY (z2c p W);have HH:=jY h
 have HSM:=jY (fun rv W (hr:W.ownsRow w.heap.size 3 1 rv (Xt (itl L)).length ((Xt (itl L)).map Or))=>J5 (Xt (itl L)) (by rw [Gv];omega) (fun x hx=>by
  unfold Xt at hx;rcases List.mem_cons.1 hx with rfl|hx
  ·omega
  ·obtain ⟨y,hy,hx⟩:=List.mem_flatMap.1 hx;obtain ⟨t,ht,rfl⟩:=List.mem_map.1 hy;obtain ⟨d,SD,rv,sh,g,_⟩:=h;have hg:=(g.set t ht).good
   exact y3x (g.ksz t ht) (Nat.le_trans hg.len hc) (fun e he=>(hg.each e he).1) x hx) rv W hr)
 clear h;refine (callsIn_wide (n:=6)).1 (callsIn_of_wp_marks Tryz.func18 rfl trivial ?_ rfl);refine wpIn_wide.2 ?_;simp only [Tryz.ntmps18,List.size_toArray,List.length_cons,List.length_nil,Nat.reduceAdd,Nat.reduceSub,Array.replicate_succ,Array.replicate_zero,List.push_toArray,List.append_toArray,List.nil_append,List.cons_append];obtain ⟨F,hF⟩:∃ F,F=w.heap.size+1:=⟨_,rfl⟩;have hb1:=Z5 w (.cells #[.int .i64 64] 3);have hb2:=hb1.trans ((Z5 (w.alloc (.cells #[.int .i64 64] 3)) (.cells #[.slice (some ⟨w.heap.size,0,none⟩) 1 1] 80)).mono hb1.size)
 have kF:Blk ((w.alloc (.cells #[.int .i64 64] 3)).alloc (.cells #[.slice (some ⟨w.heap.size,0,none⟩) 1 1] 80)) F 80 #[.slice (some ⟨w.heap.size,0,none⟩) 1 1]:=by
  have:=Blk.new (w.alloc (.cells #[.int .i64 64] 3)) 80 #[.slice (some ⟨w.heap.size,0,none⟩) 1 1]
  rw [World.size_alloc,<- hF] at this;exact this
 have hr0:((w.alloc (.cells #[.int .i64 64] 3)).alloc (.cells #[.slice (some ⟨w.heap.size,0,none⟩) 1 1] 80)).ownsRow w.heap.size 3 1 (.slice (some ⟨w.heap.size,0,none⟩) 1 1) 1 [Or 64] :=
  ⟨rfl,.inr ⟨w.heap.size,1,#[Or 64],rfl,Nat.le_refl _,(Blk.new w 3 #[Or 64]).alloc _,Nat.le_refl _,by decide,rfl,rfl⟩⟩
 go_wp2_with fail;generalize (w.alloc (.cells #[.int .i64 64] 3)).alloc (.cells #[.slice (some ⟨w.heap.size,0,none⟩) 1 1] 80)=w2 at *;rw [<- hF];refine (HA _).out.mono ?_;rintro e w3 ⟨bx,rfl,hbx,hbl,hb3⟩;have hB3:=hb2.trans (hb3.mono hb2.size);have kF3:=kF.later hb3;have hr3:=Un hr0 hb3
 have hseq:Zc.Kn Zr.itT Tryz.prog 61 #[.pointer (some ⟨bx,0,none⟩)] Ih L [F] w3:=by
  obtain ⟨d,SD,rv,sh,g,_,_,hS⟩:=HH.out;have g3:=g.later hB3
  exact z2d L (by omega) rv p d sd en mn bx [F] w3 hbx g3.blk g3.row g3.th (fun j hj e=>by
   obtain rfl:j=F:=by simpa using hj
   have:=g.lt (.inr (.inl e));omega) (fun j hj t ht e=>by
   obtain rfl:j=F:=by simpa using hj
   have:=g.lt (.inr (.inr (.inr ⟨t,ht,.inl e.symm⟩)));omega)
 have HLE:=jY hlen;have HFL:=jY hF;clear hbx hbl hb3 hb1 hb2 hr0 kF HA hF hlen;go_wp2_with fail
 refine (wpIn_wide (n:=6)).1 (Zc.Xi (gf:=61) (lb:=#[.pointer (some ⟨bx,0,none⟩)]) (encs:=Ih) (xs:=L) (L:=[F]) rfl (enters_of Tryz.func61 (by kernel_rfl) rfl) hseq (fun _ _=>rfl)
  (fun i W=>∃ rv,Bl w W/\Blk W F 80 #[rv]/\W.ownsRow w.heap.size 3 1 rv (Xt (itl (L.take i))).length ((Xt (itl (L.take i))).map Or))
  (fun _ _ _=>False)
  ?hI ?hIx ?h0 (fun _ t a' _=>y2r F t a') (fun _ _ _=>Z0 _ _) ?assign ?body ?done ?stop)
 case hI=>exact Zo fun rv=>(Z6 _ w (by have:=hB3.size;omega)).and ((Zb _ _ _ _).and (Fy _ _ _ _ _))
 case hIx=>exact fun c=>Z0 _ _
 case h0=>exact ⟨_,hB3,kF3,hr3⟩
 case assign =>
  rintro l i t W K hx' hI hK;clear hseq;unfold Ih;gi_wp2;exact hK _ _ ⟨Nat.le_refl _,fun _ _ _ h _=>h⟩ (Zc.KeepC.refl _ _) hI ⟨_,_,_,_,_,_,_,_,_,_,_,_,_,_,_,_,_,_,_,_,_,_,rfl⟩
 case body =>
  rintro l i t a' W hx' ⟨rv,hb,q0,hr⟩ ⟨u0,u1,u2,u6,u7,u8,u9,u10,u11,u12,u13,u14,u15,u16,u17,u18,u19,u20,u21,u22,u23,u24,rfl⟩;clear hseq;have ht:=List.mem_of_getElem? hx';have hd:Bl w W.drew:=hb.drew;obtain ⟨hq,hset⟩:=(HH.out.later hd).th ht;have HBY:=jY (z4u hset);have hst:=z1t hx'
  have hlen:(Xt (itl (L.take i))).length<=100000:=by
   rw [Gv,List.length_take]
   have:=HLE.out;omega
  have hmx:Tryz.prog.follows .mixedOrders=true:=by kernel_rfl
  have hFlt:=hq.lt;have S0:W.drew.cell? ⟨t.q,0,none⟩=some (.pointer (some ⟨t.s,0,none⟩)):=by have:=hq.cell 0;simpa [thC] using this
  have d0:W.drew.cell? ⟨F,0,none⟩=some rv:=q0.drew.cell 0;have hne:t.q≠F:=fun e=>by rw [e] at hq;exact absurd (hq.ty q0.drew) (by decide)
  have hro:∀ k,rv.ownBlock=some k->k≠F/\k≠t.q:=fun k hk=>by
   obtain ⟨cc,hc⟩:=Ot hr hk;exact ⟨fun e=>by rw [e] at hc;exact absurd (hc.ty q0) (by decide),fun e=>by rw [e] at hc;exact absurd (hc.ty (show Blk W t.q Ud _ from hq)) (by decide)⟩
  have HRUN:=jY (fun w5 (hb5:Below W.drew.heap.size W.drew w5)=>show
   Hid (w5.cell? ⟨t.q,0,none⟩=some (.pointer (some ⟨t.s,0,none⟩)))/\Hid (w5.cell? ⟨F,0,none⟩=some rv) /\
   Hid ((w5.alloc (.cells #[.int .i64 48,.int .i64 t.key.size,.int .i64 (szS t.isL t.E)] 3)).cell? ⟨t.q,0,none⟩=some (.pointer (some ⟨t.s,0,none⟩)))/\Hid ((w5.alloc (.cells #[.int .i64 48,.int .i64 t.key.size,.int .i64 (szS t.isL t.E)] 3)).cell? ⟨F,0,none⟩=some rv) /\
   ∃ gg cap' W7,(Builtin.append_ #[80,80] 80 #[rv,.slice (some ⟨w5.heap.size,0,none⟩) 3 3]).run Tryz.prog (w5.alloc (.cells #[.int .i64 48,.int .i64 t.key.size,.int .i64 (szS t.isL t.E)] 3))=.ok (.slice (some ⟨gg,0,none⟩) ((Xt (itl (L.take i))).length+3) cap') W7 /\
    Hid (Gy w w3.heap.size F L i W (W7.setCell ⟨F,0,none⟩ (.slice (some ⟨gg,0,none⟩) ((Xt (itl (L.take i))).length+3) cap')))/\W7.cell? ⟨F,0,none⟩=some rv/\W7.frozen? ⟨F,0,none⟩=false /\
    Hid (W7.cell? ⟨t.q,0,none⟩=some (.pointer (some ⟨t.s,0,none⟩)))/\Hid ((W7.setCell ⟨F,0,none⟩ (.slice (some ⟨gg,0,none⟩) ((Xt (itl (L.take i))).length+3) cap')).cell? ⟨t.q,0,none⟩=some (.pointer (some ⟨t.s,0,none⟩))) from by
   have hb5':Bl W w5:=(Below.refl W.heap.size W).drew.trans hb5;obtain ⟨gg,cap',W7,hrun,hr7,hg7⟩:=z6b hr hb5' 48 t.key.size (szS t.isL t.E) (by omega) hb.size;have hb6:=hb5'.trans ((Z5 w5 (.cells #[.int .i64 48,.int .i64 t.key.size,.int .i64 (szS t.isL t.E)] 3)).mono hb5'.size);have k5:=hq.later hb5;have kF5:=q0.later hb5';have kF6:=q0.later hb6;have k6:=k5.alloc (.cells #[.int .i64 48,.int .i64 t.key.size,.int .i64 (szS t.isL t.E)] 3);have kF7:Blk W7 F 80 #[rv]:=(hg7.block F kF6.lt fun e=>(hro F e.symm).1 rfl).trans kF6;have k7:Blk W7 t.q Ud (thC t.s t.toIt):=(hg7.block t.q k6.lt fun e=>(hro t.q e.symm).2 rfl).trans k6;have cq:∀ {V:World},Blk V t.q Ud (thC t.s t.toIt)->V.cell? ⟨t.q,0,none⟩=some (.pointer (some ⟨t.s,0,none⟩)):=fun h=>by have:=h.cell 0;simpa [thC] using this
   refine ⟨jY (cq k5),jY (kF5.cell 0),jY (cq k6),jY (kF6.cell 0),gg,cap',W7,hrun,jY ?_,kF7.cell 0,kF7.free 0,jY (cq k7),jY (cq (k7.setOther 0 _ hne))⟩;have hgb:Bl w W7:=(hb.trans (hb6.mono hb.size)).grown hg7 (Nat.le_trans hb.size hb6.size) fun k e=>(hr.lt k e).1
   refine ⟨(KeepsFrom.of_grownBy (row:=none) (Z7 hb6) fun _ h=>by cases h).trans ((show KeepsFrom w3.heap.size _ W7 from ⟨hg7.size,fun k o hk ho hcc=>(hg7.block k (Array.getElem?_eq_some_iff.1 ho).1 fun e=>?_).trans ho⟩).trans ((KeepsOthers.setCell _ _ _).from _)),
    (Zc.KeepC.of_below hb6).trans ((Zc.KeepC.of_grownBy hg7 fun k cc ty e hk=>?_).trans (Zc.KeepC.set _ _ _ _ (by simp))),_,hgb.setCell (p:=⟨F,0,none⟩) (by have:=HFL.out;simp only;omega) _,kF7.set 0 _,?_⟩
   ·obtain ⟨cc,hc6⟩:=Ot (Un hr hb6) e.symm;rw [show (w5.alloc _).heap[k]?=_ from hc6] at ho
    cases ho
    cases hcc
   ·obtain ⟨c2,hc6⟩:=Ot (Un hr hb6) e;rw [show (w5.alloc _).heap[k]?=_ from hc6] at hk
    cases hk
    unfold Zr.itT
    decide
   ·rw [hst,List.length_append,List.map_append]
    exact G6 hr7 fun k hk=>Below.heap_setCell _ _ _ _ fun e=>by
     obtain ⟨cc,hc7⟩:=Ot hr7 hk;rw [show k=F from e] at hc7
     exact absurd (hc7.ty kF7) (by decide))
  clear hx' hb q0 hr ht hd hq hset hst hlen hFlt hne hro;unfold Yb
  gi_wp2_with fail
  refine wpIn_mono (Q:=fun (e:Exit) (_:Act) W'=>e=.normal/\Gy w w3.heap.size F L i W W') ?_ ?_
  ·have hL:¬ LetsOut (fun (e:Exit) (_:Act) W'=>e=.normal/\Gy w w3.heap.size F L i W W'):=fun ⟨_,_,h⟩=>by cases h.1
   refine wpIn_region_any hmx (Sched.Q5 (by kernel_rfl) hL _ _ _ _ (wpAny_of_held (S:=fun V=>V.cell? ⟨t.q,0,none⟩=some (.pointer (some ⟨t.s,0,none⟩))) _ _ _ _ ?_));change wpAnyH _ _ _ _ _ _ _ _ (World.drew _);refine wpAnyH_take (i:=1) (v:=.string t.key) rfl (by kernel_rfl) (by decide +kernel) (by decide +kernel) (fun _ _ _ h=>h) (.inl ⟨by rfl,fun W' hS=>by go_simp⟩) S0 ?_;simp only [Act.put,List.setIfInBounds_toArray];refine wpAnyH_take (i:=2) (v:=.int .i64 t.key.size) rfl (by kernel_rfl) (by decide +kernel) (by decide +kernel) (fun _ _ _ h=>h) (.inl ⟨by rfl,fun W' hS=>by go_simp⟩) S0 ?_;simp only [Act.put];refine wpAnyH_take (i:=3) (v:=.pointer (some ⟨t.q,0,none⟩)) rfl (by kernel_rfl) (by decide +kernel) (by decide +kernel) (fun _ _ _ h=>h) (.inl ⟨by rfl,fun W' hS=>by go_simp⟩) S0 ?_;simp only [Act.put];refine wpAnyH_take (i:=4) (v:=.pointer (some ⟨t.q,0,none⟩)) rfl (by kernel_rfl) (by decide +kernel) (by decide +kernel) (fun _ _ _ h=>h) (.inl ⟨by rfl,fun W' hS=>by go_simp⟩) S0 ?_;simp only [Act.put];refine wpAnyH_take (i:=5) (v:=.pointer (some ⟨t.q,0,none⟩)) rfl (by kernel_rfl) (by decide +kernel) (by decide +kernel) (fun _ _ _ h=>h) (.inl ⟨by rfl,fun W' hS=>by go_simp⟩) S0 ?_;simp only [Act.put];refine wpAnyH_take (i:=6) (v:=.pointer (some ⟨t.s,0,none⟩)) rfl (by kernel_rfl) (by decide +kernel) (by decide +kernel) (fun _ _ _ h=>h) (.inl ⟨by rfl,fun W' hS=>by go_simp⟩) S0 ?_;simp only [Act.put];refine wpAnyH_all (rs:=[0,7]) (by decide +kernel) (by simp) ?_;intro i hi;simp only [List.mem_cons,List.not_mem_nil,or_false] at hi;rcases hi with rfl|rfl
   ·refine Vz rfl (by rfl) fun K' hK=>?_
    go_simp
    refine hK _ _ (by first|exact S0|exact HS5.out|exact HS6.out) ?_;clear hK K';refine wpAnyH_all (rs:=[7]) (by decide +kernel) (by simp) ?_;intro i hi;rw [List.mem_singleton] at hi;subst hi;refine Vz rfl (by rfl) fun K' hK=>?_
    go_simp
    go_at_call 38
    refine HBY.out.mono ?_;rintro e w5 ⟨rfl,hb5⟩;obtain ⟨HS5,HF5,HS6,HF6,gg,cap',W7,hrun,HEND,c7,f7,HS7,HS8⟩:=HRUN.out w5 hb5;have c5:=HF5.out;have c6:=HF6.out;clear hb5 HRUN HBY;refine hK _ _ HS5.out ?_;clear hK K';refine wpAnyH_all (rs:=[8]) (by decide +kernel) (by simp) ?_;intro i hi;rw [List.mem_singleton] at hi;subst hi;refine Vz rfl (by rfl) fun K' hK=>?_
    go_simp
    refine hK _ _ HS6.out ?_;clear hK K';refine wpAnyH_all (rs:=[9]) (by decide +kernel) (by simp) ?_;intro i hi;rw [List.mem_singleton] at hi;subst hi;refine Vz rfl (by rfl) fun K' hK=>?_;refine Q6 _ _ 80 80 rfl rfl rfl hrun ?_;refine hK _ _ HS7.out ?_;clear hK K';simp only [Act.put,List.setIfInBounds_toArray];refine wpAnyH_all (rs:=[10]) (by decide +kernel) (by simp) ?_;intro i hi;rw [List.mem_singleton] at hi;subst hi;refine Vz rfl (by rfl) fun K' hK=>?_
    go_simp
    refine hK _ _ HS8.out ?_;clear hK K';exact wpAnyH_done (by decide +kernel) ⟨rfl,HEND.out⟩ _
   ·refine Vz rfl (by rfl) fun K' hK=>?_
    go_simp
    go_at_call 38
    refine HBY.out.mono ?_;rintro e w5 ⟨rfl,hb5⟩;obtain ⟨HS5,HF5,HS6,HF6,gg,cap',W7,hrun,HEND,c7,f7,HS7,HS8⟩:=HRUN.out w5 hb5;have c5:=HF5.out;have c6:=HF6.out;clear hb5 HRUN HBY;refine hK _ _ HS5.out ?_;clear hK K';refine wpAnyH_all (rs:=[0,8]) (by decide +kernel) (by simp) ?_;intro i hi;simp only [List.mem_cons,List.not_mem_nil,or_false] at hi;rcases hi with rfl|rfl
    ·refine Vz rfl (by rfl) fun K' hK=>?_
     go_simp
     refine hK _ _ (by first|exact S0|exact HS5.out|exact HS6.out) ?_;clear hK K';refine wpAnyH_all (rs:=[8]) (by decide +kernel) (by simp) ?_;intro i hi;rw [List.mem_singleton] at hi;subst hi;refine Vz rfl (by rfl) fun K' hK=>?_
     go_simp
     refine hK _ _ HS6.out ?_;clear hK K';refine wpAnyH_all (rs:=[9]) (by decide +kernel) (by simp) ?_;intro i hi;rw [List.mem_singleton] at hi;subst hi;refine Vz rfl (by rfl) fun K' hK=>?_;refine Q6 _ _ 80 80 rfl rfl rfl hrun ?_;refine hK _ _ HS7.out ?_;clear hK K';simp only [Act.put,List.setIfInBounds_toArray];refine wpAnyH_all (rs:=[10]) (by decide +kernel) (by simp) ?_;intro i hi;rw [List.mem_singleton] at hi;subst hi;refine Vz rfl (by rfl) fun K' hK=>?_
     go_simp
     refine hK _ _ HS8.out ?_;clear hK K';exact wpAnyH_done (by decide +kernel) ⟨rfl,HEND.out⟩ _
    ·refine Vz rfl (by rfl) fun K' hK=>?_
     go_simp
     refine hK _ _ HS6.out ?_;clear hK K';refine wpAnyH_all (rs:=[0]) (by decide +kernel) (by simp) ?_;intro i hi;rw [List.mem_singleton] at hi;subst hi;refine Vz rfl (by rfl) fun K' hK=>?_
     go_simp
     refine hK _ _ (by first|exact S0|exact HS5.out|exact HS6.out) ?_;clear hK K';refine wpAnyH_all (rs:=[9]) (by decide +kernel) (by simp) ?_;intro i hi;rw [List.mem_singleton] at hi;subst hi;refine Vz rfl (by rfl) fun K' hK=>?_;refine Q6 _ _ 80 80 rfl rfl rfl hrun ?_;refine hK _ _ HS7.out ?_;clear hK K';simp only [Act.put,List.setIfInBounds_toArray];refine wpAnyH_all (rs:=[10]) (by decide +kernel) (by simp) ?_;intro i hi;rw [List.mem_singleton] at hi;subst hi;refine Vz rfl (by rfl) fun K' hK=>?_
     go_simp
     refine hK _ _ HS8.out ?_;clear hK K';exact wpAnyH_done (by decide +kernel) ⟨rfl,HEND.out⟩ _
  ·rintro e a' W' ⟨rfl,hend⟩;exact hend
 case done =>
  rintro D W hD ⟨rv,hb,q0,hr⟩ hK;rw [List.take_length] at hr;clear hseq;have HSW:=jY (HSM.out rv W hr);obtain ⟨c1,c2⟩:=Z4 q0;have HK:=jY hK;have HB:=jY hb;clear hK q0 hb hr;simp only [Exit.inBlock,Exit.then];go_wp2_with fail;refine HSW.out.mono ?_;rintro e W1 ⟨rfl,rfl⟩;go_wp2_with fail;exact Zc.Zp (v:=.int .i64 (I3 (itl L):Nat)) rfl HK.out (by simp [results,Tryz.results18,go_sem,I3]) ⟨rfl,Z9 HB.out (Nat.le_trans hB3.size hD) _⟩
 case stop =>
  rintro D c j W hD hI hK;exact hI.elim
end
section
variable {w w1 w':World} {rp sd:Nat} {u:Value} {en mn mx:Int} {R R':List Rt} {S:Nat->Prop}
end
section
variable {w w1 w':World} {rp sd:Nat} {u:Value} {en mn mx:Int} {R R':List Rt} {S:Nat->Prop}
end
section
variable {w w1 w':World} {rp sd:Nat} {u:Value} {en mn mx:Int} {R R':List Rt} {S:Nat->Prop}
end
section
variable {w w1 w' W:World} {rp sd:Nat} {u:Value} {en mn mx:Int} {R R':List Rt} {S:Nat->Prop} {x:Rt}
end
section
variable {w w1 w' W:World} {rp sd:Nat} {u:Value} {en mn mx:Int} {R R':List Rt} {S:Nat->Prop} {x:Rt}
end
end Go.Proofs.YtmehfohpjigmmaaGreatDoor
namespace Go.Proofs.YtmehfohpjigmmaaGreatDoor
open Zc (Ent Ext KeepC Y5 Z7 Z9 Yw Y1 Za Zl Ya Zp Z6 Zo Z0 Zf)
open Go.RowKit Go.Shelf Sk
end Go.Proofs.YtmehfohpjigmmaaGreatDoor

/- Texts of one kind in one: PkBase, PkRange, PkRead, PkWalk, PkLoops, PkMath. -/
import Derived.Test.YtcklcmafohlflaaGreatDoorQShelf07
set_option maxRecDepth 200000
set_option maxHeartbeats 8000000
namespace Go.Proofs.YtcklcmafohlflaaGreatDoor.Pk
open Zc
open Go.RowKit Go.Shelf
attribute [local go_sem] Oper.semAt_some
def X9(p:ByteArray)(i:Nat):Nat:=(p.data.toList.getD i 0).toNat
theorem P8(p:ByteArray)(i:Nat):X9 p i<256:=UInt8.toNat_lt _
theorem Js(p:ByteArray)(i:Nat)(h:i<p.size):p[i].toNat=X9 p i:=by
 have h2:i<p.data.toList.length:=by rw [Array.length_toList];exact h
 unfold X9;rw [List.getD_eq_getElem?_getD,lAa h2,Array.getElem_toList];rfl
theorem x4c(x:Int)(b:Nat)(hb:b<256):bits .or .i64 (wrap64 (x*256)) (wrap64 b)=wrap64 (x*256+b):=by
 have h1:∀ n:Int,IntKind.i64.wrap n=wrap64 n:=fun n=>by
  simp [IntKind.wrap,IntKind.bits,IntKind.signed,wrap64]
  split <;> omega
 have hw:∀ n:Int,BitVec.ofInt 64 (wrap64 n)=BitVec.ofInt 64 n:=fun n=>by
  apply BitVec.eq_of_toNat_eq
  simp only [BitVec.toNat_ofInt,wrap64]
  congr 1
  omega
 have hx:BitVec.ofInt 64 (x*256)=BitVec.ofInt 64 x <<< 8:=by
  apply BitVec.eq_of_toNat_eq
  simp only [BitVec.toNat_ofInt,BitVec.toNat_shiftLeft,Nat.shiftLeft_eq];omega
 have hz:BitVec.ofInt 64 (x*256) &&& BitVec.ofInt 64 (b:Int)=0#64:=by
  rw [hx]
  apply BitVec.eq_of_getLsbD_eq
  intro i hi;rw [BitVec.getLsbD_and,BitVec.getLsbD_shiftLeft]
  by_cases h8:i<8
  ·simp [h8]
  ·have:(BitVec.ofInt 64 (b:Int)).getLsbD i=false:=by
    rw [BitVec.ofInt_natCast,BitVec.getLsbD_ofNat];rw [Nat.testBit_lt_two_pow (Nat.lt_of_lt_of_le hb (Nat.pow_le_pow_right (n:=2) (i:=8) (by decide) (show 8<=i by omega)))];simp
   rw [this,Bool.and_false,BitVec.getLsbD_zero]
 unfold bits;rw [h1];show wrap64 ((BitVec.ofInt 64 (wrap64 (x*256)) ||| BitVec.ofInt 64 (wrap64 b)).toNat:Int)=_;rw [hw,hw,<- BitVec.add_eq_or_of_and_eq_zero _ _ hz];simp only [BitVec.toNat_add,BitVec.toNat_ofInt,wrap64];omega
theorem x4d(a b:Nat)(ha:a<256)(hb:b<256):bits .or .i64 ((a:Int)*256) b=(a*256+b:Nat):=by
 have:=x4c a b hb
 rw [show wrap64 ((a:Int)*256)=(a:Int)*256 by unfold wrap64;omega,show wrap64 (b:Int)=b by unfold wrap64;omega,show wrap64 ((a:Int)*256+b)=(a*256+b:Nat) by unfold wrap64;omega] at this;exact this
def Ye(p:ByteArray):Int:=if p.size<2 then -1 else if 200<X9 p 0*256+X9 p 1 then -1 else (X9 p 0*256+X9 p 1:Nat)
def U9(l:List UInt8):Int:=l.foldl (fun m b=>wrap64 (m*256+b.toNat)) 0
theorem z9h(p:ByteArray)(k:Nat)(h:k<p.size):U9 (p.data.toList.take (k+1))=wrap64 (U9 (p.data.toList.take k)*256+X9 p k):=by
 have h2:k<p.data.toList.length:=by rw [Array.length_toList];exact h
 rw [lAf h2];unfold U9;rw [List.foldl_append];simp only [List.foldl_cons,List.foldl_nil];rw [<- Js p k h,Array.getElem_toList];rfl
theorem Ju(p:ByteArray)(hp:p.size<=281474976710656)(w:World) :
 Calls Tryz.prog 192 #[.string p] w fun e w'=>e=.returned (.int .i64 (Ye p))/\Bl w w':=by
 go_enter Tryz.func192,Tryz.ntmps192
 by_cases h2:p.size<2
 ·go_wp2;go_ret;exact ⟨by simp [Ye,h2],Below.refl _ _⟩
 ·have h0:0<p.size:=by omega
  have h1:1<p.size:=by omega
  have e0:=Js p 0 h0;have e1:=Js p 1 h1;have l0:=P8 p 0;have l1:=P8 p 1;have hor:=x4d (X9 p 0) (X9 p 1) l0 l1;have HC:Ye p=if 200<X9 p 0*256+X9 p 1 then (-1:Int) else ((X9 p 0*256+X9 p 1:Nat):Int):=by unfold Ye;rw [if_neg h2]
  have HD:=jY HC;clear HC;generalize X9 p 0 * 256+X9 p 1=n at *;go_wp2
  go_region
  all_goals go_wp2
  ·have hn:200<n:=by omega
   go_ret;rw [HD.out,if_pos hn];exact ⟨rfl,(Below.refl _ _).drew⟩
  ·have hn:¬ 200<n:=by omega
   go_ret;rw [HD.out,if_neg hn];exact ⟨rfl,(Below.refl _ _).drew⟩
theorem y9k(p:ByteArray)(hp:p.size<=281474976710656)(w:World) :
 Calls Tryz.prog 218 #[.string p] w fun e w'=>e=.returned (.int .i64 (U9 p.data.toList))/\w'=w:=by
 go_enter Tryz.func218,Tryz.ntmps218
 go_wp2
 go_loopw [3,7] (fun n i wr=>∃ (k:Nat),i=.int .i64 k/\k<=p.size/\n=.int .i64 (U9 (p.data.toList.take k))/\wr=w)
  (fun _ i _=>p.size-(intOf i).toNat)
 case atStart=>exact ⟨0,rfl,by omega,rfl,rfl⟩
 case round =>
  obtain ⟨k,rfl,hk,rfl,rfl⟩:=hrel
  by_cases hlt:k<p.size
  ·have HS:=jY (z9h p k hlt);generalize U9 (p.data.toList.take k)=m at *;have he:=Js p k hlt;go_wp2;refine ⟨⟨k+1,by go_num,hlt,?_,trivial⟩,by simp [intOf];omega⟩;rw [HS.out,x4c _ _ (P8 p k)]
  ·obtain rfl:k=p.size:=by omega
   go_wp2;go_ret;rw [List.take_of_length_le (by rw [Array.length_toList];exact lAd _)];exact ⟨rfl,rfl⟩
structure Cut where
 m:ByteArray
 s:Int
 fr:Nat
 to:Nat
def Cut.val(c:Cut):Value:=.agg #[.string c.m,.int .i64 c.s,.int .i64 c.fr,.int .i64 c.to]
def z2k:Value:=.agg #[.string ⟨#[]⟩,.int .i64 0,.int .i64 0,.int .i64 0]
def Oh:Option Cut->Value
 | none=>z2k
 | some c=>c.val
theorem A7(p:ByteArray)(a k:Nat):(p.extract a (a+k)).data.toList=(p.data.toList.drop a).take k:=by
 rw [ByteArray.data_extract,Array.toList_extract];simp
def Yd(p:ByteArray)(k:Nat):Option Cut :=
 if k<2\/p.size<=k then none else if 64<X9 p k\/p.size<k+X9 p k+10 then none else
  some ⟨p.extract (k+1) (k+1+X9 p k),U9 ((p.data.toList.drop (k+1+X9 p k)).take 8),k,k+X9 p k+10⟩
def Ph(p:ByteArray)(k:Int):Option Cut:=if k<0 then none else Yd p k.toNat
def Pn(p:ByteArray)(to:Nat):Option Cut:=Ph p ((to:Int)-1-X9 p (to-1))
theorem Da(p:ByteArray)(hp:p.size<=281474976710656)(k:Int)(hk:-1000<=k)(hk2:k<=9000000000000000)(w:World) :
 Calls Tryz.prog 196 #[.string p,.int .i64 k] w fun e w'=>e=.returned (Oh (Ph p k))/\Bl w w':=by
 by_cases hk0:k<2
 ·have HB:Ph p k=none:=by unfold Ph Yd;split;rfl;rw [if_pos (by omega)]
  rw [HB]
  go_enter Tryz.func196,Tryz.ntmps196
  go_wp2;go_returns;exact ⟨rfl,(Below.refl _ _).alloc (lAd _) _⟩
 ·obtain ⟨i,rfl⟩:∃ i:Nat,k=(i:Int):=⟨k.toNat,by omega⟩;rw [show Ph p (i:Int)=Yd p i by unfold Ph;rw [if_neg (by omega)];rfl]
  by_cases hi:i<p.size
  ·have hb:=Js p i hi;have hl:=P8 p i
   have HB:Yd p i=if 64<X9 p i\/p.size<i+X9 p i+10 then none else some ⟨p.extract (i+1) (i+1+X9 p i),U9 ((p.data.toList.drop (i+1+X9 p i)).take 8),i,i+X9 p i+10⟩:=by
    unfold Yd;rw [if_neg (by omega)]
   rw [HB];clear HB;generalize X9 p i=n at *
   by_cases hc:64<n\/p.size<i+n+10
   ·rw [if_pos hc]
    go_enter Tryz.func196,Tryz.ntmps196
    go_wp2
    all_goals go_returns
    all_goals exact ⟨rfl,(Below.refl _ _).alloc (lAd _) _⟩
   ·rw [if_neg hc];have hq1:i+1+n<=p.size:=by omega
    have hq2:i+1+n+8<=p.size:=by omega
    have hq:(p.extract (i+1+n) (i+1+n+8)).size<=281474976710656:=by simp;omega
    have hsc:=y9k _ hq;rw [A7] at hsc;have HS:=fun w=>jY (hsc w);clear hsc;have g1:IntKind.i64.wrap ((i:Int)+1)=(i:Int)+1:=IntWalk.i64_in _ (by omega);have g2:IntKind.i64.wrap ((i:Int)+1+n+8)=(i:Int)+1+n+8:=IntWalk.i64_in _ (by omega);have r1:=fun W:World=>run_slice_string (P:=Tryz.prog) W 9 p .i64 .i64 ((i:Int)+1) ((i:Int)+1+n) Tryz.underlying9 (by omega) (by omega) (by omega);have r2:=fun W:World=>run_slice_string (P:=Tryz.prog) W 9 p .i64 .i64 ((i:Int)+1+n) ((i:Int)+1+n+8) Tryz.underlying9 (by omega) (by omega) (by omega);rw [show ((i:Int)+1).toNat=i+1 by omega,show ((i:Int)+1+n).toNat=i+1+n by omega] at r1;rw [show ((i:Int)+1+n+8).toNat=i+1+n+8 by omega,show ((i:Int)+1+n).toNat=i+1+n by omega] at r2
    go_enter Tryz.func196,Tryz.ntmps196
    go_wp2
    go_region_with ((go_at_call 218);(refine (HS _).out.mono ?_);(rintro e w' ⟨rfl,rfl⟩))
    all_goals go_wp2
    all_goals go_returns
    all_goals refine ⟨?_,((Below.refl _ _).alloc (lAd _) _).drew⟩
    all_goals show _=Ending.returned (Value.agg #[Value.string (p.extract (i+1) (i+1+n)),Value.int .i64 (U9 ((p.data.toList.drop (i+1+n)).take 8)),Value.int .i64 (i:Int),Value.int .i64 ((i+n+10:Nat):Int)])
    all_goals rw [show ((i+n+10:Nat):Int)=(i:Int)+1+n+8+1 by omega]
  ·have HB:Yd p i=none:=by unfold Yd;rw [if_pos (by omega)]
   rw [HB]
   go_enter Tryz.func196,Tryz.ntmps196
   go_wp2;go_returns;exact ⟨rfl,(Below.refl _ _).alloc (lAd _) _⟩
end Go.Proofs.YtcklcmafohlflaaGreatDoor.Pk
namespace Go.Proofs.YtcklcmafohlflaaGreatDoor.Pk
open Zc
open Go.RowKit Go.Shelf
def itT(t:TypeId):Prop:=t=9\/t=306\/t=310
end Go.Proofs.YtcklcmafohlflaaGreatDoor.Pk
namespace Go.Proofs.YtcklcmafohlflaaGreatDoor.Pk
open Zc
open Go.RowKit Go.Shelf
attribute [local go_sem] Oper.semAt_some
def Blk(W:World)(b:Nat)(t:TypeId)(c:Array Value):Prop:=W.heap[b]?=some (Obj.cells c t (0,0))
theorem Blk.lt{W:World}{b:Nat}{t:TypeId}{c:Array Value}(h:Blk W b t c):b<W.heap.size:=(Array.getElem?_eq_some_iff.1 h).1
theorem Blk.cell{W:World}{b:Nat}{t:TypeId}{c:Array Value}(o:Nat)(h:Blk W b t c):W.cell? ⟨b,o,none⟩=c[o]?:=by
 unfold Blk at h;simp [World.cell?,h]
theorem Blk.free{W:World}{b:Nat}{t:TypeId}{c:Array Value}(o:Nat)(h:Blk W b t c):W.frozen? ⟨b,o,none⟩=false:=by
 unfold Blk at h;simp [World.frozen?,h]
theorem Blk.below{W W':World}{b n:Nat}{t:TypeId}{c:Array Value}(h:Blk W b t c)(hb:Below n W W')(hn:b<n):Blk W' b t c:=(hb.block b hn).trans h
theorem Blk.later{W W':World}{b:Nat}{t:TypeId}{c:Array Value}(h:Blk W b t c)(hb:Bl W W'):Blk W' b t c:=h.below hb h.lt
theorem Blk.keep{W W':World}{L:List Nat}{b:Nat}{t:TypeId}{c:Array Value}(h:Blk W b t c)(hk:KeepC itT L W W')(hn:b ∉ L)(ht:itT t:=by first|exact .inl rfl|exact .inr (.inl rfl)|exact .inr (.inr rfl)):Blk W' b t c:=hk.same b c t hn ht h
theorem Blk.new(W:World)(t:TypeId)(c:Array Value):Blk (W.alloc (.cells c t)) W.heap.size t c:=Zv rfl
theorem Blk.alloc{W:World}{b:Nat}{t:TypeId}{c:Array Value}(h:Blk W b t c)(o:Obj):Blk (W.alloc o) b t c:=(Below.heap_alloc _ _ _ h.lt).trans h
theorem Blk.set{W:World}{b:Nat}{t:TypeId}{c:Array Value}(o:Nat)(v:Value)(h:Blk W b t c):Blk (W.setCell ⟨b,o,none⟩ v) b t (c.setIfInBounds o v):=by
 unfold Blk at *;simp [World.setCell,Array.getElem?_modify,h]
theorem Blk.setOther{W:World}{b b':Nat}{t:TypeId}{c:Array Value}(o:Nat)(v:Value)(h:Blk W b t c)(hne:b≠b'):Blk (W.setCell ⟨b',o,none⟩ v) b t c:=(Below.heap_setCell _ _ _ _ hne).trans h
theorem Blk.drew{W:World}{b:Nat}{t:TypeId}{c:Array Value}(h:Blk W b t c):Blk W.drew b t c:=h
theorem Z5{W:World}{b:Nat}{t:TypeId}{c0:Value}(h:Blk W b t #[c0]):W.cell? ⟨b,0,none⟩=some c0/\W.frozen? ⟨b,0,none⟩=false:=⟨h.cell 0,h.free 0⟩
theorem Za{W:World}{b:Nat}{t:TypeId}{c0 c1:Value}(h:Blk W b t #[c0,c1]):W.cell? ⟨b,0,none⟩=some c0/\W.cell? ⟨b,1,none⟩=some c1/\W.frozen? ⟨b,0,none⟩=false/\W.frozen? ⟨b,1,none⟩=false :=
 ⟨h.cell 0,h.cell 1,h.free 0,h.free 1⟩
theorem Zm{W:World}{b:Nat}{t:TypeId}{c0 c1 c2 c3:Value}(h:Blk W b t #[c0,c1,c2,c3]):W.cell? ⟨b,0,none⟩=some c0/\W.cell? ⟨b,1,none⟩=some c1/\W.cell? ⟨b,2,none⟩=some c2/\W.cell? ⟨b,3,none⟩=some c3 /\
 W.frozen? ⟨b,0,none⟩=false/\W.frozen? ⟨b,1,none⟩=false/\W.frozen? ⟨b,2,none⟩=false/\W.frozen? ⟨b,3,none⟩=false :=
 ⟨h.cell 0,h.cell 1,h.cell 2,h.cell 3,h.free 0,h.free 1,h.free 2,h.free 3⟩
theorem set2{W:World}{b:Nat}{t:TypeId}{c0 c1:Value}(v0 v1:Value)(h:Blk W b t #[c0,c1]) :
 Blk ((W.setCell ⟨b,0,none⟩ v0).setCell ⟨b,1,none⟩ v1) b t #[v0,v1] /\
 (∀ k,k≠b->((W.setCell ⟨b,0,none⟩ v0).setCell ⟨b,1,none⟩ v1).heap[k]?=W.heap[k]?) /\
 (∀ n,n<=b->Below n W ((W.setCell ⟨b,0,none⟩ v0).setCell ⟨b,1,none⟩ v1)) :=
 ⟨(h.set 0 v0).set 1 v1,fun k hk=>by rw [Below.heap_setCell _ _ _ _ hk,Below.heap_setCell _ _ _ _ hk],fun n hn=>((Below.refl n W).setCell (p:=⟨b,0,none⟩) hn v0).setCell (p:=⟨b,1,none⟩) hn v1⟩
theorem z6a{W:World}{b:Nat}{t:TypeId}{c0 c1 c2 c3:Value}(v0 v1 v2 v3:Value)(h:Blk W b t #[c0,c1,c2,c3]) :
 Blk ((((W.setCell ⟨b,0,none⟩ v0).setCell ⟨b,1,none⟩ v1).setCell ⟨b,2,none⟩ v2).setCell ⟨b,3,none⟩ v3) b t #[v0,v1,v2,v3] /\
 (∀ k,k≠b->((((W.setCell ⟨b,0,none⟩ v0).setCell ⟨b,1,none⟩ v1).setCell ⟨b,2,none⟩ v2).setCell ⟨b,3,none⟩ v3).heap[k]?=W.heap[k]?) /\
 (∀ n,n<=b->Below n W ((((W.setCell ⟨b,0,none⟩ v0).setCell ⟨b,1,none⟩ v1).setCell ⟨b,2,none⟩ v2).setCell ⟨b,3,none⟩ v3)) :=
 ⟨(((h.set 0 v0).set 1 v1).set 2 v2).set 3 v3,fun k hk=>by rw [Below.heap_setCell _ _ _ _ hk,Below.heap_setCell _ _ _ _ hk,Below.heap_setCell _ _ _ _ hk,Below.heap_setCell _ _ _ _ hk],
   fun n hn=>((((Below.refl n W).setCell (p:=⟨b,0,none⟩) hn v0).setCell (p:=⟨b,1,none⟩) hn v1).setCell (p:=⟨b,2,none⟩) hn v2).setCell (p:=⟨b,3,none⟩) hn v3⟩
theorem v4b{fn:Func}{R:Ending->World->Prop}{a:Act}{W:World}{b k:Nat}{v0 v3 v1 v2:Value}(hr:fn.results=#[.cell k 306])(hk:a.tmps.getD k undef=.pointer (some ⟨b,0,none⟩))(hB:Blk W b 306 #[v0,v1,v2,v3])(hd:a.defers=[])
 (hR:R (.returned (.agg #[v0,v1,v2,v3])) W):bodyPost Tryz.prog fn R .ret a W:=by
 obtain ⟨e0,e1,e2,e3,f0,f1,f2,f3⟩:=Zm hB;refine bodyPost_ret ?_ hd hR;have hk2:a.tmps[k]?.getD undef=.pointer (some ⟨b,0,none⟩):=by rw [<- Array.getD_eq_getD_getElem?];exact hk
 simp [results,hr,hk2,go_sem,e0,e1,e2,e3]
theorem v4p{fn:Func}{R:Ending->World->Prop}{a:Act}{W:World}{b k:Nat}{v0 v1:Value}(hr:fn.results=#[.cell k 94])(hk:a.tmps.getD k undef=.pointer (some ⟨b,0,none⟩))(hB:Blk W b 94 #[v0,v1])(hd:a.defers=[])
 (hR:R (.returned (.agg #[v0,v1])) W):bodyPost Tryz.prog fn R .ret a W:=by
 obtain ⟨e0,e1,f0,f1⟩:=Za hB;refine bodyPost_ret ?_ hd hR;have hk2:a.tmps[k]?.getD undef=.pointer (some ⟨b,0,none⟩):=by rw [<- Array.getD_eq_getD_getElem?];exact hk
 simp [results,hr,hk2,go_sem,e0,e1]
theorem Pj(o:Option Cut):∃ m s f t,Oh o=.agg #[.string m,.int .i64 s,.int .i64 f,.int .i64 t]:=by
 cases o with
 | none=>exact ⟨_,_,_,_,rfl⟩
 | some c=>exact ⟨_,_,_,_,rfl⟩
theorem y7f(p:ByteArray)(hp:p.size<=281474976710656)(to:Nat)(h0:0<to)(ht:to<=p.size)(w:World) :
 Calls Tryz.prog 193 #[.string p,.int .i64 to] w fun e w'=>e=.returned (Oh (Pn p to))/\Bl w w':=by
 obtain ⟨i,rfl⟩:∃ i,to=i+1:=⟨to-1,by omega⟩;have hi:i<p.size:=by omega
 have hb:=Js p i hi;have hl:=P8 p i;unfold Pn;simp only [Nat.add_sub_cancel];generalize X9 p i=n at *;have HB:=fun w=>jY (Da p hp ((i:Int)-n) (by omega) (by omega) w);have hto:(((i+1:Nat):Int)-1-n)=(i:Int)-n:=by omega
 rw [hto];clear hto;obtain ⟨m,s,f,t,hc⟩:=Pj (Ph p ((i:Int)-n));rw [hc] at HB ⊢;clear hc
 go_enter Tryz.func193,Tryz.ntmps193
 go_wp2_with fail;refine (HB _).out.mono ?_;rintro e w1 ⟨rfl,hb1⟩;have hB:=(Blk.new w 306 #[Value.string { data:=#[] },Value.int IntKind.i64 0,Value.int IntKind.i64 0,Value.int IntKind.i64 0]).later hb1;obtain ⟨e0,e1,e2,e3,f0,f1,f2,f3⟩:=Zm hB;have HH:=jY hB;have HL:=jY hb1;clear hB hb1;go_wp2;obtain ⟨g1,g2,g3⟩:=z6a (.string m) (.int .i64 s) (.int .i64 f) (.int .i64 t) HH.out;exact v4b Tryz.results193 rfl g1 rfl ⟨rfl,(((Below.refl _ _).alloc (lAd _) _).trans (HL.out.mono (by simp))).trans (g3 _ (lAd _))⟩
theorem z1o(c:Cut)(hs:c.m.size<=1000)(w:World) :
 Calls Tryz.prog 194 #[c.val] w fun e w'=>e=.returned (.agg #[.string c.m,.int .i64 c.s])/\Bl w w':=by
 have HC:=fun w=>jY (Tryz.stringslite_Clone c.m w (by omega))
 have HD:∀ w,Hid (Calls Tryz.prog 85 #[.string c.m] w fun e w'=>e=.returned (.string c.m)/\Bl w w'):=fun w=>jY (by
  go_enter Tryz.func85,Tryz.ntmps85
  go_wp2_with fail;refine (HC _).out.mono ?_;rintro e w1 ⟨rfl,hb1⟩;go_wp2;go_returns
  exact ⟨rfl,hb1⟩)
 clear HC;unfold Cut.val
 go_enter Tryz.func194,Tryz.ntmps194
 go_wp2_with fail;refine (HD _).out.mono ?_;rintro e w1 ⟨rfl,hb1⟩;have hA:=((Blk.new w 306 #[Value.string c.m,Value.int IntKind.i64 c.s,Value.int IntKind.i64 c.fr,Value.int IntKind.i64 c.to]).alloc (Obj.cells #[Value.string { data:=#[] },Value.int IntKind.i64 0] 94)).later hb1;have hB:=(Blk.new (w.alloc (Obj.cells #[Value.string c.m,Value.int IntKind.i64 c.s,Value.int IntKind.i64 c.fr,Value.int IntKind.i64 c.to] 306)) 94 #[Value.string { data:=#[] },Value.int IntKind.i64 0]).later hb1;rw [World.size_alloc] at hB;obtain ⟨a0,a1,a2,a3,b0,b1,b2,b3⟩:=Zm hA;obtain ⟨e0,e1,f0,f1⟩:=Za hB;have HH:=jY hB;have HA:=jY hA;have HL:=jY hb1;clear hB hb1 hA;go_wp2;obtain ⟨g1,g2,g3⟩:=set2 (.string c.m) (.int .i64 c.s) (HH.out.setOther 0 (.string c.m) (show w.heap.size+1≠w.heap.size by omega));exact v4p Tryz.results194 rfl g1 rfl ⟨rfl,(((((Below.refl _ _).alloc (lAd _) _).alloc (by simp) _).trans (HL.out.mono (by simp;omega))).setCell (p:=⟨w.heap.size,0,none⟩) (lAd _) _).trans (g3 _ (by omega))⟩
def Cx(i:Nat)(c:Cut):Array Value:=#[.int .i64 i,c.val]
def x0y(g B:Nat)(p:ByteArray)(nx:Cut->Option Cut)(xs:List Cut):Prop:=∀ c∈xs,∀ W,Blk W B 9 #[.string p] ->
 Calls Tryz.prog g #[c.val,.pointer (some ⟨B,0,none⟩)] W fun e w'=>e=.returned (Oh (nx c))/\Bl W w'
structure Chain (nx:Cut->Option Cut) (first:Option Cut) (xs:List Cut):Prop where
 first:xs[0]?=first
 next:∀ (i:Nat) (c:Cut),xs[i]?=some c->nx c=xs[i+1]?
 two:∀ c∈xs,2<=c.fr
 many:xs.length<=1000000000000000
theorem v2c(c:Cut)(h:2<=c.fr)(W:World):(binOp .neq 306 (.agg #[.string c.m,.int .i64 c.s,.int .i64 c.fr,.int .i64 c.to]) (.agg #[.string ⟨#[]⟩,.int .i64 0,.int .i64 0,.int .i64 0])).run Tryz.prog W=.ok (.bool true) W:=by
 simp [go_sem];omega
theorem x8t(W:World):(binOp .neq 306 (.agg #[.string ⟨#[]⟩,.int .i64 0,.int .i64 0,.int .i64 0]) (.agg #[.string ⟨#[]⟩,.int .i64 0,.int .i64 0,.int .i64 0])).run Tryz.prog W=.ok (.bool false) W:=by
 simp [go_sem]
theorem x0r(g B B1 B2:Nat)(p:ByteArray)(nx:Cut->Option Cut)(xs:List Cut)(m:ByteArray)(s f t:Int)(hc:Chain nx xs[0]? xs)(hN:x0y g B p nx xs)(eg:∀ args w,(callFunc g args).run Tryz.prog w=.ok (.enter g args) w)
 (L:List Nat) (w:World) (hL:∀ k∈L,k<w.heap.size) (hB:B ∉ L) (_:B1 ∉ L) (hB2:B2 ∉ L) (h0:Blk w B 9 #[.string p]) (h1:Blk w B1 306 #[.string m,.int .i64 s,.int .i64 f,.int .i64 t]) (hm:Oh xs[0]?=.agg #[.string m,.int .i64 s,.int .i64 f,.int .i64 t])
 (h2:Blk w B2 310 #[.func (.func g) #[] #[.pointer (some ⟨B,0,none⟩)]]) :
 Cv itT Tryz.prog 217 #[.pointer (some ⟨B1,0,none⟩),.pointer (some ⟨B2,0,none⟩)] Cx xs L w:=by
 intro l J Jx W hW hJ hJx hY hJ0;have k0:=h0.later hW;have k1:=h1.later hW;have k2:=h2.later hW;obtain ⟨a0,a1,a2,a3,b0,b1,b2,b3⟩:=Zm k1;have hsz:=hW.size;refine callsIn_of_wp Tryz.func217 rfl trivial ?_ rfl;simp only [Tryz.ntmps217,List.size_toArray,List.length_cons,List.length_nil,Nat.reduceAdd,Nat.reduceSub,Array.replicate_succ,Array.replicate_zero,List.push_toArray,List.append_toArray,List.nil_append,List.cons_append];have HN:=jY hN;have HY:=jY hY;have HC:=jY hc;clear hN hY hc;gi_wp2
 gi_loopw [4,5] (fun at' cp wr=>∃ (i C:Nat) (m:ByteArray) (s f t:Int),at'=.int .i64 i/\cp=.pointer (some ⟨C,0,none⟩)/\i<=xs.length/\J i wr/\w.heap.size<=C/\Blk wr C 306 #[.string m,.int .i64 s,.int .i64 f,.int .i64 t]/\Oh xs[i]?=.agg #[.string m,.int .i64 s,.int .i64 f,.int .i64 t]/\Blk wr B 9 #[.string p]/\Blk wr B2 310 #[.func (.func g) #[] #[.pointer (some ⟨B,0,none⟩)]])
  (fun at' _ _=>xs.length-(intOf at').toNat)
 case atStart=>exact ⟨0,_,m,s,f,t,rfl,rfl,Nat.zero_le _,hJ _ _ _ hJ0 ((Below.refl _ _).alloc (lAd _) _),hsz,Zv rfl,hm,k0.alloc _,k2.alloc _⟩
 case round =>
  clear a0 a1 a2 a3 b0 b1 b2 b3 k0 k1 k2 hm h1;obtain ⟨i,C,m',s',f',t',rfl,rfl,hi,hJi,hC,k1,hm,k0,k2⟩:=hrel;obtain ⟨a0,a1,a2,a3,b0,b1,b2,b3⟩:=Zm k1;obtain ⟨c2,_⟩:=Z5 k2
  cases hx:xs[i]? with
  | none =>
    rw [hx] at hm;unfold Oh z2k at hm;simp only [Value.agg.injEq,Array.mk.injEq,List.cons.injEq,Value.string.injEq,Value.int.injEq,and_true,true_and] at hm;obtain ⟨rfl,rfl,rfl,rfl⟩:=hm;have hne:=x8t;have hil:i=xs.length:=by have:=List.getElem?_eq_none_iff.1 hx;omega
    rw [hil] at hJi;clear hil;gi_wp2;refine ⟨fun _ h=>(by cases h),?_⟩;gi_wp2
    go_end0
    exact ⟨⟨_,rfl⟩,.inl hJi⟩
  | some c =>
    rw [hx] at hm;unfold Oh Cut.val at hm;simp only [Value.agg.injEq,Array.mk.injEq,List.cons.injEq,Value.string.injEq,Value.int.injEq,and_true,true_and] at hm;obtain ⟨rfl,rfl,rfl,rfl⟩:=hm;have hne:=v2c c (HC.out.two c (lAc hx));have hlt:i<xs.length:=by have:=lAb.1 hx;exact this.1
    obtain ⟨fn,tmps,assign,body,hy,hR⟩:=HY.out i c wr hx hJi;unfold Cx Cut.val at hy
    gi_wp2_with fail
    (try refine ⟨fun _=>by decide,?_⟩)
    refine hR.mono ?_;rintro e W3 (⟨rfl,hJ3,hk3⟩|⟨rfl,hJx3⟩)
    ·have k13:=k1.keep hk3 (fun h=>by have:=hL _ h;omega);have k03:=k0.keep hk3 hB;have k23:=k2.keep hk3 hB2;obtain ⟨a30,a31,a32,a33,b30,b31,b32,b33⟩:=Zm k13;obtain ⟨c23,_⟩:=Z5 k23;have HK:=jY hk3;have hNc:=fun W h=>jY (HN.out c (lAc hx) W h);unfold Cut.val at hNc;have hi9:(i:Int)<=1000000000000000:=by have:=HC.out.many;omega
     have hi0:(0:Int)<=i:=by omega
     obtain ⟨c24,_⟩:=Z5 (k23.alloc (Obj.cells #[Value.string c.m,Value.int IntKind.i64 c.s,Value.int IntKind.i64 c.fr,Value.int IntKind.i64 c.to] 306));have k04:=k03.alloc (Obj.cells #[Value.string c.m,Value.int IntKind.i64 c.s,Value.int IntKind.i64 c.fr,Value.int IntKind.i64 c.to] 306);clear hR hy hk3
     gi_wp2_with fail
     refine ⟨trivial,?_⟩;refine callsIn_wide.2 (Calls.mono (hNc _ k04).out ?_);rintro e W5 ⟨rfl,hb5⟩;have hJ5:=hJ _ _ _ hJ3 ((((Below.refl _ _).alloc (lAd _) _).trans (hb5.mono (by simp))));obtain ⟨m5,s5,f5,t5,h5⟩:=Pj (nx c);have hn5:=HC.out.next i c hx;rw [h5];have k15:=(Blk.new W3 306 #[Value.string c.m,Value.int IntKind.i64 c.s,Value.int IntKind.i64 c.fr,Value.int IntKind.i64 c.to]).later hb5;obtain ⟨d0,d1,d2,d3,o0,o1,o2,o3⟩:=Zm k15;have HB5:=jY hb5;clear hb5;gi_wp2;obtain ⟨g1,g2,g3⟩:=z6a (.string m5) (.int .i64 s5) (.int .i64 f5) (.int .i64 t5) k15;have hb9:W3.heap.size<W5.heap.size:=k15.lt;have hCw:C<W3.heap.size:=k13.lt;refine ⟨⟨i+1,W3.heap.size,m5,s5,f5,t5,by go_num,rfl,hlt,?_,by omega,g1,by rw [<- hn5];exact h5,?_,?_⟩,by simp [intOf];omega⟩
     ·exact hJ _ _ _ hJ3 ((((Below.refl _ _).alloc (lAd _) _).trans (HB5.out.mono (by simp))).trans (g3 _ (lAd _)))
     ·exact (g2 _ (by have:=k03.lt;omega)).trans (k04.later HB5.out)
     ·exact (g2 _ (by have:=k23.lt;omega)).trans ((k23.alloc _).later HB5.out)
    ·gi_wp2
     go_end0
     exact ⟨⟨_,rfl⟩,.inr ⟨_,hJx3⟩⟩
def Ud(p:ByteArray)(c:Cut):Option Cut:=Yd p c.to
theorem z7k(p:ByteArray)(hp:p.size<=281474976710656)(B:Nat)(xs:List Cut)(hx:∀ c∈xs,c.to<=p.size):x0y 197 B p (Ud p) xs:=by
 intro c hc W hB;have hto:=hx c hc;have HB:=fun w=>jY (Da p hp (c.to:Int) (by omega) (by omega) w);rw [show Ph p (c.to:Int)=Ud p c by unfold Ph Ud;rw [if_neg (by omega)];rfl] at HB;obtain ⟨m,s,f,t,h⟩:=Pj (Ud p c);rw [h] at HB ⊢;clear h;obtain ⟨e0,_⟩:=Z5 hB;unfold Cut.val;have e1:=(Z5 ((hB.alloc (Obj.cells #[Value.string c.m,Value.int IntKind.i64 c.s,Value.int IntKind.i64 c.fr,Value.int IntKind.i64 c.to] 306)).alloc (Obj.cells #[Value.string { data:=#[] },Value.int IntKind.i64 0,Value.int IntKind.i64 0,Value.int IntKind.i64 0] 306))).1
 go_enter Tryz.func197,Tryz.ntmps197
 go_wp2_with fail;refine (HB _).out.mono ?_;rintro e w1 ⟨rfl,hb1⟩;have hA:=(Blk.new (W.alloc (Obj.cells #[Value.string c.m,Value.int IntKind.i64 c.s,Value.int IntKind.i64 c.fr,Value.int IntKind.i64 c.to] 306)) 306 #[Value.string { data:=#[] },Value.int IntKind.i64 0,Value.int IntKind.i64 0,Value.int IntKind.i64 0]).later hb1;rw [World.size_alloc] at hA;obtain ⟨a0,a1,a2,a3,b0,b1,b2,b3⟩:=Zm hA;have HA:=jY hA;have HL:=jY hb1;clear hb1 hA;go_wp2;obtain ⟨g1,g2,g3⟩:=z6a (.string m) (.int .i64 s) (.int .i64 f) (.int .i64 t) HA.out;exact v4b Tryz.results197 rfl g1 rfl ⟨rfl,((((Below.refl _ _).alloc (lAd _) _).alloc (by simp) _).trans (HL.out.mono (by simp;omega))).trans (g3 _ (by omega))⟩
def v0q(v:Value)(xs:List Cut)(n0:Nat)(w:World):Prop:=∃ lb,v=.func (.func 217) #[] lb/\∀ (L:List Nat) (W:World),Bl w W->(∀ k∈L,k<n0/\k<W.heap.size)->Cv itT Tryz.prog 217 lb Cx xs L W
theorem x6x(n0 g B:Nat)(p:ByteArray)(nx:Cut->Option Cut)(xs:List Cut)(hc:Chain nx xs[0]? xs)(hN:x0y g B p nx xs)(eg:∀ args w,(callFunc g args).run Tryz.prog w=.ok (.enter g args) w)(w:World)(h0:Blk w B 9 #[.string p])(hn:n0<=B) :
 Calls Tryz.prog 195 #[Oh xs[0]?,.func (.func g) #[] #[.pointer (some ⟨B,0,none⟩)]] w fun e w'=>∃ v,e=.returned v/\v0q v xs n0 w'/\Bl w w':=by
 have hmf:∀ (fn:Fn) (first cap:Array Value) (w:World),(Instr.makeFunc fn first cap).run Tryz.prog w=.ok (.func fn first cap) w:=fun _ _ _ _=>rfl;obtain ⟨m,s,f,t,h⟩:=Pj xs[0]?;rw [h]
 go_enter Tryz.func195,Tryz.ntmps195
 go_wp2;go_ret;have k0:=(h0.alloc (Obj.cells #[Value.string m,Value.int IntKind.i64 s,Value.int IntKind.i64 f,Value.int IntKind.i64 t] 306)).alloc (Obj.cells #[Value.func (Fn.func g) #[] #[Value.pointer (some { block:=B,off:=0 })]] 310);have k1:=(Blk.new w 306 #[Value.string m,Value.int IntKind.i64 s,Value.int IntKind.i64 f,Value.int IntKind.i64 t]).alloc (Obj.cells #[Value.func (Fn.func g) #[] #[Value.pointer (some { block:=B,off:=0 })]] 310);have k2:=Blk.new (w.alloc (Obj.cells #[Value.string m,Value.int IntKind.i64 s,Value.int IntKind.i64 f,Value.int IntKind.i64 t] 306)) 310 #[Value.func (Fn.func g) #[] #[Value.pointer (some { block:=B,off:=0 })]];rw [World.size_alloc] at k2;have hB:=h0.lt;refine ⟨_,rfl,⟨_,rfl,fun L W hW hL=>?_⟩,((Below.refl _ _).alloc (lAd _) _).alloc (by simp) _⟩;have no:∀ k,n0<=k->k ∉ L:=fun k hk hk2=>by have:=(hL k hk2).1;omega
 exact x0r g B _ _ p nx xs m s f t hc hN eg L W (fun k hk=>(hL k hk).2) (no _ (by omega)) (no _ (by omega)) (no _ (by omega)) (k0.later hW) (k1.later hW) h (k2.later hW)
theorem Qb(p:ByteArray)(hp:p.size<=281474976710656)(xs:List Cut)(hc:Chain (Ud p) (Yd p 2) xs)(hx:∀ c∈xs,c.to<=p.size)(w:World) :
 Calls Tryz.prog 170 #[.string p] w fun e w'=>∃ v,e=.returned v/\v0q v xs w.heap.size w'/\Bl w w':=by
 have hmf:∀ (fn:Fn) (first cap:Array Value) (w:World),(Instr.makeFunc fn first cap).run Tryz.prog w=.ok (.func fn first cap) w:=fun _ _ _ _=>rfl;have HB:=fun w=>jY (Da p hp 2 (by omega) (by omega) w);rw [show Ph p 2=xs[0]? from hc.first.symm] at HB;have hc':Chain (Ud p) xs[0]? xs:=⟨rfl,hc.next,hc.two,hc.many⟩
 go_enter Tryz.func170,Tryz.ntmps170
 go_wp2_with fail;refine (HB _).out.mono ?_;rintro e w1 ⟨rfl,hb1⟩;have hA:=(Blk.new w 9 #[Value.string p]).later hb1;have HW:=jY (x6x w.heap.size 197 w.heap.size p (Ud p) xs hc' (z7k p hp _ xs hx) (fun _ _=>by kernel_rfl) w1 hA (lAd _));have HL:=jY hb1;clear hb1 hA;go_wp2_with fail;refine HW.out.mono ?_;rintro e w2 ⟨v,rfl,hG,hb2⟩;have HG:=jY hG;have HL2:=jY hb2;clear hG hb2;go_wp2;go_ret;exact ⟨_,rfl,HG.out,(((Below.refl _ _).alloc (lAd _) _).trans (HL.out.mono (by simp))).trans (HL2.out.mono (lAe (by simp) HL.out.size))⟩
theorem v4a{fn:Func}{tmps:Array Value}{W:World}{b k:Nat}{v0 v3 v1 v2:Value}(hr:fn.results=#[.cell k 306])(hk:tmps.getD k undef=.pointer (some ⟨b,0,none⟩))(hB:Blk W b 306 #[v0,v1,v2,v3]) :
 (results fn tmps).run Tryz.prog W=.ok (.agg #[v0,v1,v2,v3]) W:=by
 obtain ⟨e0,e1,e2,e3,f0,f1,f2,f3⟩:=Zm hB;have hk2:tmps[k]?.getD undef=.pointer (some ⟨b,0,none⟩):=by rw [<- Array.getD_eq_getD_getElem?];exact hk
 simp [results,hr,hk2,go_sem,e0,e1,e2,e3]
theorem y8y{fn:Func}{tmps:Array Value}{W:World}{b k:Nat}{t:TypeId}{v0:Value}(ht:t=3\/t=4)(hr:fn.results=#[.cell k t])(hk:tmps.getD k undef=.pointer (some ⟨b,0,none⟩))(hB:Blk W b t #[v0]) :
 (results fn tmps).run Tryz.prog W=.ok v0 W:=by
 obtain ⟨e0,f0⟩:=Z5 hB;have hk2:tmps[k]?.getD undef=.pointer (some ⟨b,0,none⟩):=by rw [<- Array.getD_eq_getD_getElem?];exact hk
 rcases ht with rfl|rfl <;> simp [results,hr,hk2,go_sem,e0]
theorem Zh{β:Type}(B b:Nat)(t:TypeId)(c:β->Array Value):OwnFrom B (fun s W=>Blk W b t (c s)):=fun s X Y row hs hg hr =>
 (hg.block b hs.lt (fun e=>by obtain ⟨_,o,ho,hc⟩:=hr b e.symm;rw [show X.heap[b]?=_ from hs] at ho;cases ho;cases hc)).trans hs
theorem Blk.put{W:World}{b D:Nat}{t:TypeId}{c:Array Value}(h:Blk W b t c)(o:Obj)(hne:b≠D):Blk (W.putObj D o) b t c:=(World.putObj_heap_other hne).trans h
theorem Blk.put'{W:World}{b D:Nat}{t:TypeId}{c:Array Value}{ds:Option (List Deferred)}(h:Blk W b t c)(hD:W.heap[D]?=some (.deferred ds))(o:Obj):Blk (W.putObj D o) b t c :=
 h.put o (fun e=>by subst e;have:=(show W.heap[b]?=_ from h).symm.trans hD;cases this)
theorem y1v(B:Nat)(W:World):KeepsFrom B W W.drew:=⟨lAd _,fun _ _ _ h _=>h⟩
theorem y1u(L:List Nat)(W:World):KeepC itT L W W.drew:=⟨lAd _,fun _ _ _ _ _ h=>h⟩
end Go.Proofs.YtcklcmafohlflaaGreatDoor.Pk
namespace Go.Proofs.YtcklcmafohlflaaGreatDoor.Pk
open Zc
open Go.RowKit Go.Shelf
theorem x1l{a b:ByteArray}(h:a.data.toList=b.data.toList):a=b:=ByteArray.ext (Array.toList_inj.1 h)
theorem Vi(t:ByteArray):t.data.toList.length=t.size:=by rw [Array.length_toList];rfl
theorem Xd{p:ByteArray}{k:Nat}{c:Cut}(h:Yd p k=some c):2<=k/\c.fr=k/\c.to=k+X9 p k+10/\c.to<=p.size/\X9 p k<=64/\c.m=p.extract (k+1) (k+1+X9 p k)/\c.m.size=X9 p k /\
 c.s=U9 ((p.data.toList.drop (k+1+X9 p k)).take 8):=by
 unfold Yd at h
 split at h
 ·cases h
 ·split at h
  ·cases h
  ·cases h
   refine ⟨by omega,rfl,rfl,by simp only;omega,by omega,rfl,?_,rfl⟩;simp;omega
theorem y0n(p:ByteArray):Yd p p.size=none:=by unfold Yd;rw [if_pos (by omega)]
theorem Jw{p:ByteArray}{k:Nat}{c:Cut}(h:Yd p k=some c):Pn p c.to=some c↔X9 p (c.to-1)=c.m.size+9:=by
 obtain ⟨h2,hf,ht,hs,h64,_,hm,_⟩:=Xd h;unfold Pn Ph;generalize hb:X9 p (c.to-1)=b
 constructor
 ·intro he
  split at he
  ·cases he
  ·have:=(Xd he).2.1
   omega
 ·intro he;rw [if_neg (by omega),show ((c.to:Int)-1-b).toNat=k by omega];exact h
def goS(p:ByteArray):Nat->Nat->Option (List Cut)
 | 0,pos=>if pos=p.size then some [] else none
 | n+1,pos=>match Yd p pos with
   | none=>none
   | some c=>if X9 p (c.to-1)=c.m.size+9 then (goS p n c.to).map (c :: ·) else none
def Qr(p:ByteArray):Option (List Cut):=if 0<=Ye p then goS p (Ye p).toNat 2 else none
def Zt(p:ByteArray):Bool:=(Qr p).isSome
theorem By(p:ByteArray):∀ (n pos:Nat),p.size<=pos+n->∃ xs:List Cut,xs[0]?=Yd p pos/\(∀ (i:Nat) (c:Cut),xs[i]?=some c->Ud p c=xs[i+1]?)/\(∀ c∈xs,2<=c.fr/\2<=c.to/\c.to<=p.size)/\xs.length<=n
 | 0,pos,h=>⟨[],by unfold Yd;rw [if_pos (by omega)];rfl,fun i c h=>by simp at h,fun c h=>by simp at h,lAd _⟩
 | n+1,pos,h=>by
   cases hb:Yd p pos with
   | none=>exact ⟨[],rfl,fun i c h=>by simp at h,fun c h=>by simp at h,by simp⟩
   | some c =>
     obtain ⟨h2,hf,ht,hs,h64,_,hm,_⟩:=Xd hb;obtain ⟨xs,h0,hn,ha,hl⟩:=By p n c.to (by omega);refine ⟨c :: xs,rfl,fun i d hd=>?_,fun d hd=>?_,by simp;omega⟩
     ·cases i with
      | zero=>simp at hd;subst hd;rw [show (c :: xs)[0+1]?=xs[0]? by simp,h0];rfl
      | succ i=>simp at hd;rw [hn i d hd];simp
     ·rcases List.mem_cons.1 hd with rfl|hd
      ·omega
      ·exact ha d hd
theorem Gq(p:ByteArray)(hp:p.size<=281474976710656):∃ xs,Chain (Ud p) (Yd p 2) xs/\∀ c∈xs,2<=c.to/\c.to<=p.size:=by
 obtain ⟨xs,h0,hn,ha,hl⟩:=By p p.size 2 (by omega);exact ⟨xs,⟨h0,hn,fun c h=>(ha c h).1,by omega⟩,fun c h=>(ha c h).2⟩
def Yh(xs:List Cut)(i:Nat):Nat:=match i with
 | 0=>2
 | i+1=>(xs[i]?.map Cut.to).getD 0
def Kf(p:ByteArray)(xs:List Cut)(i:Nat):Prop:=∀ (j:Nat) (c:Cut),j<i->xs[j]?=some c->Pn p c.to=some c
theorem Oo{p:ByteArray}{xs:List Cut}(hc:Chain (Ud p) (Yd p 2) xs):∀ i,i<=xs.length->Yd p (Yh xs i)=xs[i]?
 | 0,_=>hc.first.symm
 | i+1,h=>by
   have hx:xs[i]?=some (xs[i]'(by omega)):=lAa (by omega);rw [<- hc.next i _ hx];simp [Yh,hx,Ud]
theorem Dg{p:ByteArray}{xs:List Cut}(hc:Chain (Ud p) (Yd p 2) xs)(n:Nat):∀ i,i<=xs.length->i<=n->Kf p xs i->goS p n 2=(goS p (n-i) (Yh xs i)).map (xs.take i++·)
 | 0,_,_,_=>by simp [Yh]
 | i+1,h,hn,hg=>by
   rw [Dg hc n i (by omega) (by omega) (fun j c hj hx=>hg j c (by omega) hx)];have hx:xs[i]?=some (xs[i]'(by omega)):=lAa (by omega);have hb:=(Oo hc i (by omega)).trans hx;have he:=hg i _ (by omega) hx;rw [Jw hb] at he;obtain ⟨m,hm⟩:∃ m,n-i=m+1:=⟨n-i-1,by omega⟩;rw [hm,show n-(i+1)=m by omega];have e1:Yh xs (i+1)=(xs[i]'(by omega)).to:=by simp [Yh,hx]
   rw [e1,goS.eq_def];simp only [hb,if_pos he,Option.map_map]
   congr 1
   funext l
   show List.take i xs++(xs[i] :: l)=List.take (i+1) xs++l;rw [lAf (show i<xs.length by omega),List.append_assoc];rfl
theorem Gr(p:ByteArray):-1<=Ye p/\Ye p<=200:=by
 unfold Ye
 split
 ·omega
 ·split <;> omega
theorem y8z{p:ByteArray}{xs:List Cut}(hc:Chain (Ud p) (Yd p 2) xs)(i:Nat)(hg:Kf p xs i)(hl:i<=xs.length)(h1:i=xs.length\/Ye p<=i)(h2:i=0\/(i:Int)<=Ye p) :
 Zt p=(decide ((i:Int)=Ye p)&&decide ((Yh xs i:Int)=p.size)):=by
 unfold Zt Qr
 have:=Gr p
 by_cases hn:0<=Ye p
 ·rw [if_pos hn,Dg hc _ i hl (by omega) hg]
  by_cases hi:(i:Int)=Ye p
  ·rw [show (Ye p).toNat-i=0 by omega];unfold goS
   by_cases he:Yh xs i=p.size
   ·simp [hi,he]
   ·have he2:¬ ((Yh xs i:Int)=p.size):=by omega
    simp [he,he2]
  ·obtain ⟨m,hm⟩:∃ m,(Ye p).toNat-i=m+1:=⟨(Ye p).toNat-i-1,by omega⟩;have hi2:i=xs.length:=by omega
   rw [hm,goS.eq_def];simp only [Oo hc i hl,List.getElem?_eq_none (show xs.length<=i by omega)];simp [hi]
 ·rw [if_neg hn];have hi:¬ (i:Int)=Ye p:=by omega
  simp [hi]
theorem z9e{p:ByteArray}{xs:List Cut}(hc:Chain (Ud p) (Yd p 2) xs)(i:Nat)(c:Cut)(hg:Kf p xs i)(hx:xs[i]?=some c)(he:Pn p c.to≠some c)(hn:(i:Int)<Ye p):Zt p=false:=by
 unfold Zt Qr;have hl:i<xs.length:=(lAb.1 hx).1;rw [if_pos (by omega),Dg hc _ i (by omega) (by omega) hg];obtain ⟨m,hm⟩:∃ m,(Ye p).toNat-i=m+1:=⟨(Ye p).toNat-i-1,by omega⟩;have hb:=(Oo hc i (by omega)).trans hx;rw [ne_eq,Jw hb] at he;rw [hm,goS.eq_def];simp only [hb,if_neg he];simp
theorem z7p{p:ByteArray}:∀ (n pos:Nat) (cs:List Cut),goS p n pos=some cs->cs.length=n/\cs[0]?=Yd p pos/\(∀ (i:Nat) (c:Cut),cs[i]?=some c->Ud p c=cs[i+1]?) /\
 (∀ c∈cs,2<=c.fr/\2<=c.to/\c.to<=p.size/\c.fr<=p.size/\Pn p c.to=some c)/\((cs.getLast?.map Cut.to).getD pos=p.size)
 | 0,pos,cs,h=>by
   unfold goS at h
   split at h
   ·next he=>cases h;refine ⟨rfl,by rw [he,y0n];rfl,fun i c h=>by simp at h,fun c h=>by simp at h,by simpa using he⟩
   ·cases h
 | n+1,pos,cs,h=>by
   rw [goS.eq_def] at h
   cases hb:Yd p pos with
   | none=>simp [hb] at h
   | some c =>
     simp only [hb] at h
     split at h
     ·next he =>
      obtain ⟨l,hl,rfl⟩:=Option.map_eq_some_iff.1 h;obtain ⟨i1,i2,i3,i4,i5⟩:=z7p n c.to l hl;obtain ⟨h2,hf,ht,hs,h64,_,hm,_⟩:=Xd hb;refine ⟨by simp [i1],rfl,fun i d hd=>?_,fun d hd=>?_,?_⟩
      ·cases i with
       | zero=>simp at hd;subst hd;rw [show (c :: l)[0+1]?=l[0]? by simp,i2];rfl
       | succ i=>simp at hd;rw [i3 i d hd];simp
      ·rcases List.mem_cons.1 hd with rfl|hd
       ·exact ⟨by omega,by omega,by omega,by omega,(Jw hb).2 he⟩
       ·exact i4 d hd
      ·cases l with
       | nil=>simpa using i5
       | cons d l =>
         rw [List.getLast?_cons_cons];obtain ⟨y,hy⟩:∃ y,(d :: l).getLast?=some y:=⟨_,List.getLast?_eq_some_getLast (by simp)⟩;rw [hy] at i5 ⊢;exact i5
     ·cases h
end Go.Proofs.YtcklcmafohlflaaGreatDoor.Pk

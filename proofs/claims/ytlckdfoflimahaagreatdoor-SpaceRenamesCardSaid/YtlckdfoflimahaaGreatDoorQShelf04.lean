/- Texts of one kind in one: Shelf, SkLink, SkMem, SkForth, SkWay, SkDown, SkAsk. -/
import Derived.Shelf.LaysM
import Derived.Shelf.Strconv.Clone
import Derived.Test.YtlckdfoflimahaaGreatDoorProg
import Derived.Test.YtlckdfoflimahaaGreatDoorQZMath03
import Derived.Deep.Quiet
import Derived.Deep.WholeRow
import Derived.Deep.MidRow
import Derived.Lib.MinMaxS
import Derived.BigQuiet
set_option maxRecDepth 200000
set_option maxHeartbeats 8000000
namespace Go.Proofs
open Go.Shelf
def Tryz.laysM316_ren:Go.Shelf.Ren:=⟨fun|316=>170|n=>n,fun|9=>9|3=>3|4=>4|37=>67|0=>0|127=>295|5=>5|n=>n,fun|n=>n⟩
theorem Tryz.laysM316:Go.Proofs.LaysM.n316 Tryz.prog Tryz.laysM316_ren:={
 mixed:=by kernel_rfl
 f316:=Tryz.func170.trans (congrArg some (by kernel_rfl))
 t0:=Tryz.underlying0
 a0:=Tryz.isAgg0
 z0:=Tryz.sizeOf0
 v0:=Tryz.zeroValue0
 t3:=Tryz.underlying3
 a3:=Tryz.isAgg3
 z3:=Tryz.sizeOf3
 v3:=Tryz.zeroValue3
 t4:=Tryz.underlying4
 a4:=Tryz.isAgg4
 z4:=Tryz.sizeOf4
 v4:=Tryz.zeroValue4
 t9:=Tryz.underlying9
 a9:=Tryz.isAgg9
 z9:=Tryz.sizeOf9
 v9:=Tryz.zeroValue9
 t37:=Tryz.underlying67
 a37:=Tryz.isAgg67
 z37:=Tryz.sizeOf67
 v37:=Tryz.zeroValue67
 t127:=Tryz.underlying295
 a127:=Tryz.isAgg295
 z127:=Tryz.sizeOf295
 v127:=Tryz.zeroValue295
 t5:=Tryz.underlying5
 a5:=Tryz.isAgg5
 z5:=Tryz.sizeOf5
 v5:=Tryz.zeroValue5
 i0:=by kernel_rfl
 i3:=by kernel_rfl
 i4:=by kernel_rfl
 i5:=by kernel_rfl
 i9:=by kernel_rfl
 i37:=by kernel_rfl
 i127:=by kernel_rfl }
open Go.RowKit in
theorem Tryz.stringslite_Clone(s:ByteArray)(w:World)(hlim:s.size≤281474976710656) :
   Calls Tryz.prog 170 #[.string s] w fun e w'=>e=.returned (.string s)∧Below w.heap.size w w':=Any.stringslite_Clone Tryz.laysM316 s w hlim
end Go.Proofs
namespace Go.Proofs.YtlckdfoflimahaaGreatDoor.Sk
open Go.RowKit Go.Shelf
attribute [local go_sem] Oper.semAt_some
theorem drewB(W:World)(n:Nat):Below W.heap.size W (W.drewN n):=⟨rfl,rfl,rfl,Nat.le_refl _,fun _ _=>rfl⟩
theorem link_any(b:Nat)(pl:Int)(k:Nat)(hk:k<32)(w:World):Calls Tryz.prog 245 #[.agg #[.pointer (some ⟨b,0,none⟩),.int .i64 pl,.int .i64 k]] w fun e w'=>e=.returned (.pointer (some ⟨b,3+k*2,none⟩))∧Below w.heap.size w w':=by
 go_enter Tryz.func245,Tryz.ntmps245
 go_wp2_with fail
 go_quiet (fail)
 go_wp2
 go_ret
 exact ⟨rfl,((Below.refl _ _).alloc (Nat.le_refl _) _).trans ((drewB _ _).mono (by simp))⟩
theorem start_any(b:Nat)(k:Nat)(w:World):Calls Tryz.prog 265 #[.pointer (some ⟨b,0,none⟩),.int .i64 k] w fun e w'=>e=.returned (.agg #[.pointer (some ⟨b,0,none⟩),.int .i64 (-1),.int .i64 k])∧Below w.heap.size w w':=by
 go_enter Tryz.func265,Tryz.ntmps265
 go_wp2
 go_returns
 exact ⟨rfl,(Below.refl _ _).alloc (Nat.le_refl _) _⟩
theorem tie_none(b t:Nat)(A:Array Value)(w:World)(h:Blk w b t A)(h3:A[3]?=some (.pointer none)):Calls Tryz.prog 249 #[.pointer (some ⟨b,0,none⟩)] w fun e w'=>e=.returned (.tuple #[])∧w'=w:=by
 have e0:=h.cell 3
 rw [h3] at e0
 go_enter Tryz.func249,Tryz.ntmps249
 go_wp2
 go_returns
 exact ⟨rfl,rfl⟩
theorem tie_some(b t b' t':Nat)(A A':Array Value)(w:World)(h:Blk w b t A)(h3:A[3]?=some (.pointer (some ⟨b',0,none⟩)))(h':Blk w b' t' A')(hs:2<A'.size):Calls Tryz.prog 249 #[.pointer (some ⟨b,0,none⟩)] w fun e w'=>e=.returned (.tuple #[])∧w'=w.setCell ⟨b',2,none⟩ (.pointer (some ⟨b,0,none⟩)):=by
 have e0:=h.cell 3
 rw [h3] at e0
 have e1:=h'.cell 2
 rw [Array.getElem?_eq_getElem hs] at e1
 have e2:=h'.free 2
 go_enter Tryz.func249,Tryz.ntmps249
 go_wp2
 go_returns
 exact ⟨rfl,rfl⟩
end Go.Proofs.YtlckdfoflimahaaGreatDoor.Sk
namespace Go.Proofs.YtlckdfoflimahaaGreatDoor.Sk
open Go.RowKit Go.Shelf
structure Far (S:Nat→Prop) (w w':World):Prop where
 os:w'.os=w.os
 tape:w'.tape=w.tape
 output:w'.output=w.output
 size:w.heap.size≤w'.heap.size
 block:∀ k,k<w.heap.size→¬ S k→w'.heap[k]?=w.heap[k]?
theorem Far.refl(S:Nat→Prop)(w:World):Far S w w:=⟨rfl,rfl,rfl,Nat.le_refl _,fun _ _ _=>rfl⟩
theorem Far.trans{S S1:Nat→Prop}{a b c:World}(h:Far S a b)(g:Far S1 b c)(hs:∀ k,S1 k→S k∨a.heap.size≤k):Far S a c :=
 ⟨g.os.trans h.os,g.tape.trans h.tape,g.output.trans h.output,Nat.le_trans h.size g.size,fun k hk hn =>
   (g.block k (Nat.lt_of_lt_of_le hk h.size) (fun h1=>by rcases hs k h1 with h2|h2;exact hn h2;omega)).trans (h.block k hk hn)⟩
theorem Far.of_below{S:Nat→Prop}{a b:World}(h:Below a.heap.size a b):Far S a b:=⟨h.os,h.tape,h.output,h.size,fun k hk _=>h.block k hk⟩
theorem Far.then_below{S:Nat→Prop}{a b c:World}(h:Far S a b)(g:Below b.heap.size b c):Far S a c:=h.trans (S1:=fun _=>False) (Far.of_below g) (fun _ h=>h.elim)
theorem Far.set{S:Nat→Prop}{a b:World}(h:Far S a b)(p:Addr)(v:Value)(hp:S p.block∨a.heap.size≤p.block):Far S a (b.setCell p v) :=
 h.trans (S1:=fun k=>k=p.block) ⟨rfl,rfl,rfl,by simp [World.setCell],fun k _ hn=>Below.heap_setCell _ _ _ _ hn⟩ (fun k e=>by subst e;exact hp)
theorem Far.below{S:Nat→Prop}{a b:World}(h:Far S a b){B:Nat}(hS:∀ k,S k→B≤k)(hB:B≤a.heap.size):Below B a b :=
 ⟨h.os,h.tape,h.output,h.size,fun k hk=>h.block k (by omega) (fun h1=>by have:=hS k h1;omega)⟩
theorem Far.mono{S S1:Nat→Prop}{a b:World}(h:Far S a b)(hs:∀ k,S k→S1 k):Far S1 a b:=⟨h.os,h.tape,h.output,h.size,fun k hk hn=>h.block k hk (fun h1=>hn (hs k h1))⟩
theorem Far.blk{S:Nat→Prop}{a b:World}(h:Far S a b){k:Nat}{t:TypeId}{c:Array Value}(hk:Blk a k t c)(hn:¬ S k):Blk b k t c:=(h.block k hk.lt hn).trans hk
theorem Blk.ty{W:World}{k:Nat}{t t':TypeId}{c c':Array Value}(h:Blk W k t c)(h':Blk W k t' c'):t=t':=by
 unfold Blk at h h';rw [h] at h';injection h' with h';injection h' with _ ht
structure Nd where
 b:Nat
 m:ByteArray
 s:Int
 l:Nat
def hd(p:Nat):Nd:=⟨p,⟨#[]⟩,0,32⟩
def lev(F:List Nd)(q:Nat):Nat:=(F[q]?.map Nd.l).getD 0
def adr(F:List Nd)(q:Nat):Value:=.pointer (F[q]?.map fun x=>⟨x.b,0,none⟩)
def stp(F:List Nd)(k q:Nat):Value:=.agg #[adr F q,.int .i64 ((q:Int)-1),.int .i64 k]
theorem adr_some{F:List Nd}{q:Nat}{x:Nd}(h:F[q]?=some x):adr F q=.pointer (some ⟨x.b,0,none⟩):=by unfold adr;rw [h];rfl
theorem adr_none{F:List Nd}{q:Nat}(h:F.length≤q):adr F q=.pointer none:=by unfold adr;rw [List.getElem?_eq_none h];rfl
theorem lev_some{F:List Nd}{q:Nat}{x:Nd}(h:F[q]?=some x):lev F q=x.l:=by unfold lev;rw [h];rfl
def steps(F:List Nd)(k q:Nat):List Nat:=(List.range' (q+1) (F.length-(q+1))).filter fun i=>k<lev F i
def nxt(F:List Nd)(k q:Nat):Nat:=((List.range' (q+1) (F.length-(q+1))).find? fun i=>k<lev F i).getD F.length
theorem find_range(P:Nat→Bool):∀ m a,match (List.range' a m).find? P with
   | none=>(List.range' a m).filter P=[]∧∀ i,a≤i→i<a+m→P i=false
   | some y=>a≤y∧y<a+m∧P y=true∧(∀ i,a≤i→i<y→P i=false)∧(List.range' a m).filter P=y :: (List.range' (y+1) (a+m-(y+1))).filter P:=by
 intro m
 induction m with
 | zero=>intro a;exact ⟨rfl,fun i h1 h2=>by omega⟩
 | succ m ih =>
   intro a
   rw [List.range'_succ]
   by_cases h:P a=true
   · rw [List.find?_cons_of_pos h,List.filter_cons_of_pos h]
     refine ⟨Nat.le_refl _,by omega,h,fun i h1 h2=>by omega,?_⟩
     rw [show a+(m+1)-(a+1)=m by omega]
   · have h':P a=false:=by simpa using h
     rw [List.find?_cons_of_neg h,List.filter_cons_of_neg h]
     have:=ih (a+1)
     split at this
     · rename_i e
       refine ⟨this.1,fun i h1 h2=>?_⟩
       by_cases e2:i=a
       · subst e2;exact h'
       · exact this.2 i (by omega) (by omega)
     · rename_i y e
       obtain ⟨t1,t2,t3,t4,t5⟩:=this
       refine ⟨by omega,by omega,t3,fun i h1 h2=>?_,?_⟩
       · by_cases e2:i=a
         · subst e2;exact h'
         · exact t4 i (by omega) (by omega)
       · rw [t5,show a+1+m-(y+1)=a+(m+1)-(y+1) by omega]
theorem nxt_spec(F:List Nd)(k q:Nat)(hq:q<F.length):q<nxt F k q∧nxt F k q≤F.length∧(∀ i,q<i→i<nxt F k q→lev F i≤k)∧(nxt F k q<F.length→k<lev F (nxt F k q)) ∧
   steps F k q=(if nxt F k q<F.length then nxt F k q :: steps F k (nxt F k q) else []):=by
 have:=find_range (fun i=>decide (k<lev F i)) (F.length-(q+1)) (q+1)
 unfold nxt steps
 split at this
 · rename_i e
   rw [e]
   refine ⟨hq,Nat.le_refl _,fun i h1 h2=>?_,fun h=>absurd h (Nat.lt_irrefl _),?_⟩
   · have:=this.2 i (by omega) (by simp at h2;omega)
     simpa using this
   · rw [this.1,if_neg];simp
 · rename_i y e
   rw [e]
   obtain ⟨t1,t2,t3,t4,t5⟩:=this
   simp only [Option.getD_some]
   refine ⟨by omega,by omega,fun i h1 h2=>by simpa using t4 i (by omega) h2,fun _=>by simpa using t3,?_⟩
   rw [t5,if_pos (by omega),show q+1+(F.length-(q+1))=F.length by omega]
theorem nxt_unique{F:List Nd}{k q j:Nat}(hq:q<F.length)(h1:q<j)(h2:j≤F.length)(h3:∀ i,q<i→i<j→lev F i≤k)(h4:j<F.length→k<lev F j):nxt F k q=j:=by
 obtain ⟨a1,a2,a3,a4,_⟩:=nxt_spec F k q hq
 rcases Nat.lt_trichotomy (nxt F k q) j with h|h|h
 · have:=h3 _ a1 h
   have:=a4 (by omega)
   omega
 · exact h
 · have:=a3 _ h1 h
   have:=h4 (by omega)
   omega
theorem mem_steps{F:List Nd}{k q i:Nat}:i∈steps F k q↔q<i∧i<F.length∧k<lev F i:=by
 unfold steps
 rw [List.mem_filter,List.mem_range'_1]
 simp
 omega
def lk0(F:List Nd)(q k:Nat):Value × Int:=(adr F (nxt F k q),(nxt F k q:Int)-q-1)
def ah0(F:List Nd)(q:Nat):Value:=if q=0 then .pointer none else adr F (q-1)
def tyq(q:Nat):TypeId:=if q=0 then 306 else 304
def szq(q:Nat):Nat:=if q=0 then 68 else 67
structure NodeA (A:Array Value) (q:Nat) (x:Nd) (lk:Nat→Value × Int) (ah:Value) (n:Int):Prop where
 size:A.size=szq q
 m:A[0]?=some (.string x.m)
 s:A[1]?=some (.int .i64 x.s)
 a:A[2]?=some ah
 link:∀ k,k<x.l→A[3+k*2]?=some (lk k).1∧A[3+k*2+1]?=some (.int .i64 (lk k).2)
 n:q=0→A[67]?=some (.int .i64 n)
structure Sk (W:World) (F:List Nd) (lk:Nat→Nat→Value × Int) (ah:Nat→Value) (n:Int):Prop where
 node:∀ (q:Nat) (x:Nd),F[q]?=some x→∃ A,Blk W x.b (tyq q) A∧NodeA A q x (lk q) (ah q) n
 inj:∀ (q q':Nat) (x x':Nd),F[q]?=some x→F[q']?=some x'→x.b=x'.b→q=q'
 lev:∀ (q:Nat) (x:Nd),F[q]?=some x→0<x.l∧x.l≤32
theorem ty_q(q:Nat):itT (tyq q):=by unfold tyq;split;exact .inr (.inr (.inr rfl));exact .inr (.inr (.inl rfl))
theorem ty_ne(q:Nat):tyq q≠329∧tyq q≠301∧tyq q≠331∧tyq q≠117:=by unfold tyq;split <;> decide
variable {W W':World} {F:List Nd} {lk:Nat→Nat→Value × Int} {ah:Nat→Value} {n:Int}
def isB(F:List Nd)(k:Nat):Prop:=∃ x∈F,x.b=k
theorem isB_at{q:Nat}{x:Nd}(h:F[q]?=some x):isB F x.b:=⟨x,List.mem_of_getElem? h,rfl⟩
theorem Sk.lt(h:Sk W F lk ah n){k:Nat}(hk:isB F k):k<W.heap.size:=by
 obtain ⟨x,hx,rfl⟩:=hk
 obtain ⟨q,hq⟩:=List.mem_iff_getElem?.1 hx
 obtain ⟨A,hA,_⟩:=h.node q x hq
 exact hA.lt
theorem Sk.far(h:Sk W F lk ah n){S:Nat→Prop}(hf:Far S W W')(hS:∀ k,isB F k→¬ S k):Sk W' F lk ah n :=
 ⟨fun q x hq=>by obtain ⟨A,h1,h2⟩:=h.node q x hq;exact ⟨A,hf.blk h1 (hS _ (isB_at hq)),h2⟩,h.inj,h.lev⟩
theorem Sk.later(h:Sk W F lk ah n)(hb:Below W.heap.size W W'):Sk W' F lk ah n:=h.far (S:=fun _=>False) (Far.of_below hb) (fun _ _ h=>h)
theorem Sk.keep(h:Sk W F lk ah n){L:List Nat}(hk:KeepC L W W')(hL:∀ k∈L,¬ isB F k):Sk W' F lk ah n :=
 ⟨fun q x hq=>by obtain ⟨A,h1,h2⟩:=h.node q x hq;exact ⟨A,h1.keep hk (fun e=>hL _ e (isB_at hq)) (ty_q q),h2⟩,h.inj,h.lev⟩
theorem Sk.setOther(h:Sk W F lk ah n)(b o:Nat)(v:Value)(hb:¬ isB F b):Sk (W.setCell ⟨b,o,none⟩ v) F lk ah n :=
 ⟨fun q x hq=>by obtain ⟨A,h1,h2⟩:=h.node q x hq;exact ⟨A,h1.setOther o v (fun e=>hb (e ▸ isB_at hq)),h2⟩,h.inj,h.lev⟩
theorem Sk.not_ty(h:Sk W F lk ah n){b t:Nat}{c:Array Value}(hb:Blk W b t c)(ht:∀ q,tyq q≠t):¬ isB F b:=fun ⟨x,hx,e⟩=>by
 obtain ⟨q,hq⟩:=List.mem_iff_getElem?.1 hx
 obtain ⟨A,hA,_⟩:=h.node q x hq
 subst e
 exact ht q (hA.ty hb)
theorem Sk.aside(h:Sk W F lk ah n){N:Nat}(ha:Aside N W W'):Sk W' F lk ah n :=
 ⟨fun q x hq=>by obtain ⟨A,h1,h2⟩:=h.node q x hq;exact ⟨A,ha.block _ _ h1 (.inr fun c e=>by injection e with _ e2;exact (ty_ne q).1 e2),h2⟩,h.inj,h.lev⟩
end Go.Proofs.YtlckdfoflimahaaGreatDoor.Sk
namespace Go.Proofs.YtlckdfoflimahaaGreatDoor.Sk
open Go.RowKit Go.Shelf
attribute [local go_sem] Oper.semAt_some
def placeAt(W:World)(c:Nat):Int:=match W.cell? ⟨c,1,none⟩ with|some v=>intOf v|none=>0
def encQ(F:List Nd)(k:Nat)(_:Nat)(q:Nat):Array Value:=#[stp F k q]
theorem facts3{W:World}{b:Nat}{t:TypeId}{c0 c1 c2:Value}(h:Blk W b t #[c0,c1,c2]):W.cell? ⟨b,0,none⟩=some c0∧W.cell? ⟨b,1,none⟩=some c1∧W.cell? ⟨b,2,none⟩=some c2∧W.frozen? ⟨b,0,none⟩=false∧W.frozen? ⟨b,1,none⟩=false∧W.frozen? ⟨b,2,none⟩=false :=
 ⟨h.cell 0,h.cell 1,h.cell 2,h.free 0,h.free 1,h.free 2⟩
def boxQ(F:List Nd)(k q:Nat):Array Value:=#[adr F q,.int .i64 ((q:Int)-1),.int .i64 k]
theorem forth_any(F:List Nd)(ah:Nat→Value)(n:Int)(w:World)(k q0:Nat)(x0:Nd)(hk:k<32)(hx0:F[q0]?=some x0)(hl0:k<x0.l)(hN:F.length≤1000000)(L:List Nat)(hw:Sk w F (lk0 F) ah n)(hL:∀ b∈L,¬ isB F b)(hL2:∀ b∈L,b<w.heap.size) :
   SeqF Tryz.prog 266 #[stp F k q0] #[] (encQ F k) (steps F k q0) L w:=by
 intro l J Jx W hW hJ hJx hY hJ0
 refine callsIn_of_wp Tryz.func266 rfl trivial ?_ rfl
 unfold stp
 simp only [Tryz.ntmps266,List.size_toArray,List.length_cons,List.length_nil,Nat.reduceAdd,Nat.reduceSub,Array.replicate_succ,Array.replicate_zero,List.push_toArray,List.append_toArray,List.nil_append,List.cons_append,List.append_nil]
 have HY:=Lib.hid hY
 have HJ:=Lib.hid hJ
 have HJX:=Lib.hid hJx
 have HW:=Lib.hid (hw.later hW)
 have HL:=Lib.hid hL
 have hL2':∀ b∈L,b<W.heap.size:=fun b hb=>Nat.lt_of_lt_of_le (hL2 b hb) hW.size
 have HL2:=Lib.hid hL2'
 have HX0:=Lib.hid hx0
 have HL0:=Lib.hid hl0
 have HJ0:=Lib.hid (hJ 0 W (W.alloc (.cells (boxQ F k q0) 329)) hJ0 (Aside.of_below ((Below.refl _ _).alloc (Nat.le_refl _) _)))
 clear hY hJ hJx hW hL hL2 hw hx0 hl0 hJ0 hL2'
 gi_wp2
 gi_loopw [4] (fun _ wr=>∃ (i q:Nat) (x:Nd),F[q]?=some x∧k<x.l∧Blk wr W.heap.size 329 (boxQ F k q)∧(steps F k q0).drop i=steps F k q∧i≤(steps F k q0).length∧J i wr∧Sk wr F (lk0 F) ah n∧W.heap.size≤wr.heap.size)
   (fun _ wr=>(F.length-placeAt wr W.heap.size).toNat)
 case atStart =>
   refine ⟨0,q0,x0,HX0.out,HL0.out,Blk.new _ _ _,rfl,Nat.zero_le _,HJ0.out,HW.out.later ((Below.refl _ _).alloc (Nat.le_refl _) _),by simp⟩
 case round =>
   obtain ⟨i,q,x,hx,hkl,kb,hd,hi,hJi,hS,hsz⟩:=hrel
   have hql:q<F.length:=(List.getElem?_eq_some_iff.1 hx).1
   obtain ⟨s1,s2,s3,s4,s5⟩:=nxt_spec F k q hql
   obtain ⟨A,hA,hN1⟩:=hS.node q x hx
   obtain ⟨l1,l2⟩:=hN1.link k hkl
   have c1:=hA.cell (3+k*2)
   rw [l1] at c1
   have c2:=hA.cell (3+k*2+1)
   rw [l2] at c2
   have hae:=adr_some hx
   have hpl:placeAt wr W.heap.size=(q:Int)-1:=by unfold placeAt;rw [kb.cell 1];rfl
   have HLK:=fun (w:World)=>Lib.hid (link_any x.b ((q:Int)-1) k hk w)
   unfold boxQ at kb
   rw [hae] at kb
   unfold lk0 at c1 c2
   simp only at c1 c2
   have hb1:=Lib.hid hA
   obtain ⟨f0,f1,f2,f3,f4,f5⟩:=facts3 kb
   have KB:=Lib.hid kb
   have HS:=Lib.hid hS
   have S5:=Lib.hid s5
   have S4:=Lib.hid s4
   clear hA hN1 l1 l2 s3 s4 s5 kb hS hae
   gi_wp2_with fail
   refine ⟨trivial,?_⟩
   refine (callsIn_wide.2 (HLK _).out).mono ?_
   rintro e w1 ⟨rfl,hb1'⟩
   have c1':=(hb1'.cell (p:=⟨x.b,3+k*2,none⟩) (hb1.out.lt)).trans c1
   have c2':=(hb1'.cell (p:=⟨x.b,3+k*2+1,none⟩) (hb1.out.lt)).trans c2
   have g0:=(hb1'.cell (p:=⟨W.heap.size,0,none⟩) (KB.out.lt)).trans f0
   have g1:=(hb1'.cell (p:=⟨W.heap.size,1,none⟩) (KB.out.lt)).trans f1
   have g2:=(hb1'.cell (p:=⟨W.heap.size,2,none⟩) (KB.out.lt)).trans f2
   have kb1:=KB.out.later hb1'
   have f3':=kb1.free 0
   have f4':=kb1.free 1
   have f5':=kb1.free 2
   have z1:W.heap.size<w1.heap.size:=kb1.lt
   have KB1:=Lib.hid kb1
   have HB1:=Lib.hid hb1'
   clear f0 f1 f2 f3 f4 f5 c1 c2 kb1 hb1'
   by_cases hlast:nxt F k q<F.length
   · obtain ⟨y,hy⟩:∃ y,F[nxt F k q]?=some y:=⟨_,List.getElem?_eq_getElem hlast⟩
     have hay:=adr_some hy
     rw [hay] at c1'
     gi_wp2_with fail
     have hp:(q:Int)-1+((nxt F k q:Int)-q-1)+1=(nxt F k q:Int)-1:=by omega
     rw [hp]
     clear hp
     generalize ho:Obj.cells #[Value.pointer (some ⟨y.b,0,none⟩),Value.int IntKind.i64 ((nxt F k q:Int)-q-1)] 301=o at *
     obtain ⟨W2,hW2⟩:∃ W2,W2=((((w1.setCell ⟨W.heap.size,0,none⟩ (.pointer (some ⟨y.b,0,none⟩))).setCell ⟨W.heap.size,1,none⟩ (.int .i64 ((nxt F k q:Int)-1))).setCell ⟨W.heap.size,2,none⟩ (.int .i64 k)).alloc o):=⟨_,rfl⟩
     rw [← hW2]
     have k2:Blk W2 W.heap.size 329 (boxQ F k (nxt F k q)):=by
       rw [hW2]
       have:=(((KB1.out.set 0 (.pointer (some ⟨y.b,0,none⟩))).set 1 (.int .i64 ((nxt F k q:Int)-1))).set 2 (.int .i64 k)).alloc o
       unfold boxQ
       rw [hay]
       exact this
     have hAs:Aside W.heap.size wr W2:=by
       rw [hW2]
       have q1:=KB1.out
       have q2:=q1.set 0 (.pointer (some ⟨y.b,0,none⟩))
       have q3:=q2.set 1 (.int .i64 ((nxt F k q:Int)-1))
       exact (Aside.of_below HB1.out).trans ((Aside.set _ _ _ _ q1 (Nat.le_refl _)).trans ((Aside.set _ _ _ _ q2 (Nat.le_refl _)).trans ((Aside.set _ _ _ _ q3 (Nat.le_refl _)).trans (Aside.of_below ((Below.refl _ _).alloc (Nat.le_refl _) _)))))
     have hJ2:=HJ.out i wr W2 hJi hAs
     have hS2:=HS.out.aside hAs
     have h5:=S5.out
     rw [if_pos hlast] at h5
     have hil:(steps F k q0)[i]?=some (nxt F k q):=by
       have:=congrArg (fun l=>l[0]?) (hd.trans h5)
       simpa using this
     have hz2:W.heap.size≤W2.heap.size:=Nat.le_trans hsz hAs.size
     obtain ⟨fn,tmps,assign,body,hy2,hR⟩:=HY.out i _ W2 hil hJ2
     unfold encQ stp at hy2
     rw [hay] at hy2
     have K2:=Lib.hid k2
     have S2:=Lib.hid hS2
     have HLE:=Lib.hid (List.getElem?_eq_some_iff.1 hil).1
     have HD2:(steps F k q0).drop (i+1)=steps F k (nxt F k q):=by
       have:=congrArg (List.drop 1) (hd.trans h5)
       simpa using this
     have HLY:=Lib.hid (lev_some hy ▸ S4.out hlast)
     have HY':=Lib.hid hy
     clear c1' c2' g0 g1 g2 f3' f4' f5' hW2 k2 hAs hJ2 hS2 h5 hil hd hy hi ho
     rw [hy2]
     gi_wp2_with fail
     (try refine ⟨fun _=>by decide,?_⟩)
     refine hR.mono ?_
     rintro e W3 (⟨rfl,hJ3,hk3⟩|⟨rfl,hJx3⟩)
     · have k3:=K2.out.keep hk3 (fun e=>Nat.lt_irrefl _ (HL2.out _ e))
       have S3:=S2.out.keep hk3 HL.out
       clear hR hy2 K2 S2
       have hpl3:placeAt W3 W.heap.size=(nxt F k q:Int)-1:=by unfold placeAt;rw [k3.cell 1];rfl
       have K3:=Lib.hid k3
       have S3':=Lib.hid S3
       clear k3 S3
       gi_wp2
       refine ⟨⟨i+1,nxt F k q,y,HY'.out,HLY.out,K3.out,HD2,HLE.out,hJ3,S3'.out,Nat.le_trans hz2 hk3.size⟩,?_⟩
       rw [hpl,hpl3]
       omega
     · clear hR hy2
       gi_wp2
       go_returns
       exact ⟨⟨_,rfl⟩,.inr ⟨_,hJx3⟩⟩
   · have hnone:=adr_none (F:=F) (q:=nxt F k q) (by omega)
     rw [hnone] at c1'
     gi_wp2
     go_returns
     have h5:=S5.out
     rw [if_neg hlast] at h5
     have hie:i=(steps F k q0).length:=by
       have:=congrArg List.length (hd.trans h5)
       simp only [List.length_drop,List.length_nil] at this
       omega
     refine ⟨⟨_,rfl⟩,.inl ?_⟩
     rw [← hie]
     exact HJ.out i wr _ hJi (Aside.of_below (HB1.out.trans ((Below.refl _ _).alloc (HB1.out.size) _)))
end Go.Proofs.YtlckdfoflimahaaGreatDoor.Sk
namespace Go.Proofs.YtlckdfoflimahaaGreatDoor.Sk
open Go.RowKit Go.Shelf
def last(F:List Nd)(k:Nat):Nat→Nat
 | 0=>0
 | a+1=>if k<lev F (a+1) then a+1 else last F k a
theorem last_spec(F:List Nd)(k:Nat)(h0:k<lev F 0):∀ a,last F k a≤a∧k<lev F (last F k a)∧∀ i,last F k a<i→i≤a→lev F i≤k:=by
 intro a
 induction a with
 | zero=>exact ⟨Nat.le_refl _,h0,fun i h1 h2=>by simp [last] at h1;omega⟩
 | succ a ih =>
   unfold last
   split
   · rename_i h;exact ⟨Nat.le_refl _,h,fun i h1 h2=>by omega⟩
   · rename_i h
     refine ⟨by omega,ih.2.1,fun i h1 h2=>?_⟩
     by_cases e:i=a+1
     · subst e;omega
     · exact ih.2.2 i h1 (by omega)
theorem last_unique{F:List Nd}{k a q:Nat}(h0:k<lev F 0)(h1:q≤a)(h2:k<lev F q)(h3:∀ i,q<i→i≤a→lev F i≤k):last F k a=q:=by
 obtain ⟨t1,t2,t3⟩:=last_spec F k h0 a
 rcases Nat.lt_trichotomy (last F k a) q with h|h|h
 · have:=t3 q h h1;omega
 · exact h
 · have:=h3 _ h t1;omega
theorem last_zero(F:List Nd)(hp:∀ i,i<F.length→0<lev F i)(a:Nat)(h:a<F.length):last F 0 a=a :=
 last_unique (hp 0 (by omega)) (Nat.le_refl _) (hp a h) (fun i h1 h2=>by omega)
def wayC(F:List Nd)(a:Nat):List Value:=(List.range 32).flatMap fun k=>(boxQ F k (last F k a)).toList
def wayA(F:List Nd)(a:Nat):Array Value:=(wayC F a).toArray
theorem flat3(f:Nat→List Value)(hf:∀ k,(f k).length=3):∀ n,((List.range n).flatMap f).length=n*3∧∀ k i,k<n→i<3→((List.range n).flatMap f)[k*3+i]?=(f k)[i]?:=by
 intro n
 induction n with
 | zero=>exact ⟨rfl,fun k i h _=>by omega⟩
 | succ n ih =>
   have hs:(List.range (n+1)).flatMap f=(List.range n).flatMap f++f n:=by
     rw [List.range_succ,List.flatMap_append];simp
   rw [hs]
   refine ⟨by rw [List.length_append,ih.1,hf];omega,fun k i hk hi=>?_⟩
   by_cases e:k=n
   · subst e
     rw [List.getElem?_append_right (by rw [ih.1];omega),ih.1]
     congr 1
     omega
   · rw [List.getElem?_append_left (by rw [ih.1];omega)]
     exact ih.2 k i (by omega) hi
theorem wayC_len(F:List Nd)(a:Nat):(wayC F a).length=96:=(flat3 _ (fun _=>rfl) 32).1
theorem wayA_size(F:List Nd)(a:Nat):(wayA F a).size=96:=by unfold wayA;simp [wayC_len]
theorem wayA_at(F:List Nd)(a k i:Nat)(hk:k<32)(hi:i<3):(wayA F a)[k*3+i]?=(boxQ F k (last F k a))[i]?:=by
 unfold wayA
 have:=(flat3 (fun k=>(boxQ F k (last F k a)).toList) (fun _=>rfl) 32).2 k i hk hi
 simpa [wayC] using this
theorem wayA_of{F:List Nd}{a:Nat}{A:Array Value}(hs:A.size=96)(h:∀ k i,k<32→i<3→A[k*3+i]?=(boxQ F k (last F k a))[i]?):A=wayA F a:=by
 apply Array.ext_getElem?
 intro j
 by_cases hj:j<96
 · have h1:=h (j / 3) (j % 3) (by omega) (by omega)
   have h2:=wayA_at F a (j / 3) (j % 3) (by omega) (by omega)
   rw [show j / 3*3+j % 3=j by omega] at h1 h2
   rw [h1,h2]
 · rw [Array.getElem?_eq_none (by omega),Array.getElem?_eq_none (by rw [wayA_size];omega)]
theorem way_cells(F:List Nd)(a k:Nat)(hk:k<32):(wayA F a)[k*3]?=some (adr F (last F k a))∧(wayA F a)[k*3+1]?=some (.int .i64 ((last F k a:Int)-1))∧(wayA F a)[k*3+2]?=some (.int .i64 k) :=
 ⟨wayA_at F a k 0 hk (by decide),wayA_at F a k 1 hk (by decide),wayA_at F a k 2 hk (by decide)⟩
theorem way_one(F:List Nd)(a:Nat):(wayA F a).all (·.oneCell')=true:=by
 rw [Array.all_eq_true]
 intro j hj
 rw [wayA_size] at hj
 have h2:=wayA_at F a (j / 3) (j % 3) (by omega) (by omega)
 rw [show j / 3*3+j % 3=j by omega,Array.getElem?_eq_getElem (by rw [wayA_size];exact hj)] at h2
 have h3:j % 3=0∨j % 3=1∨j % 3=2:=by omega
 rcases h3 with h3|h3|h3 <;> (rw [h3] at h2;simp [boxQ] at h2;rw [h2];rfl)
def zW:Array Value:=((List.range 32).flatMap fun _=>[Value.pointer none,.int .i64 0,.int .i64 0]).toArray
theorem info150:(Tryz.prog.info? 331).map (fun i=>(i.zero,i.size))=some (some (.agg zW),96):=by kernel_rfl
theorem zW_size:zW.size=96:=by decide +kernel
theorem zero71(w:World):(zeroValue 331).run Tryz.prog w=.ok (.agg zW) w:=(zero_of_info info150).1 w
theorem size71:(Tryz.prog.info? 331).map (·.size)=some 96:=(zero_of_info info150).2
theorem under71:Tryz.prog.underlying 331=some (.array 32 329):=by kernel_rfl
theorem load71{W:World}{b:Nat}{A:Array Value}(h:Blk W b 331 A)(hs:A.size=96):(Instr.loadAt 331 (.pointer (some ⟨b,0,none⟩))).run Tryz.prog W=.ok (.agg A) W:=by
 simp only [Instr.loadAt,Instr.sureAddr,Sem.run_bind,Sem.run_pure,Result.andThen]
 exact run_loadVar_row _ _ 331 331 A (0,0) _ h under71 rfl (by rw [size71,hs])
theorem loadVar71{W:World}{b:Nat}{A:Array Value}(h:Blk W b 331 A)(hs:A.size=96):(loadVar 331 ⟨b,0,none⟩).run Tryz.prog W=.ok (.agg A) W :=
 run_loadVar_row _ _ 331 331 A (0,0) _ h under71 rfl (by rw [size71,hs])
theorem store71{W:World}{b:Nat}{A B:Array Value}(h:Blk W b 331 A)(hs:A.size=96)(hs':B.size=96)(ho:B.all (·.oneCell')=true):(Instr.storeAt 331 (.pointer (some ⟨b,0,none⟩)) (.agg B)).run Tryz.prog W=.ok () (W.setRow b B):=by
 simp only [Instr.storeAt,Instr.sureAddr,Sem.run_bind,Sem.run_pure,Result.andThen]
 exact run_storeVar_row _ _ 331 331 A B h (by rw [size71,hs']) (by rw [hs,hs']) ho
theorem Blk.setRow{W:World}{b t:Nat}{A:Array Value}(h:Blk W b t A)(B:Array Value):Blk (W.setRow b B) b t B:=by
 unfold Blk at *;simp [World.setRow,Array.getElem?_modify,h]
theorem setRow_other{W:World}{b k:Nat}(B:Array Value)(hne:k≠b):(W.setRow b B).heap[k]?=W.heap[k]?:=by
 simp [World.setRow,Array.getElem?_modify,Ne.symm hne]
theorem setRow_size(W:World)(b:Nat)(B:Array Value):(W.setRow b B).heap.size=W.heap.size:=by simp [World.setRow]
end Go.Proofs.YtlckdfoflimahaaGreatDoor.Sk
namespace Go.Proofs.YtlckdfoflimahaaGreatDoor.Sk
open Go.RowKit Go.Shelf
attribute [local go_sem] Oper.semAt_some
theorem keeps_below{B:Nat}{A C:World}(h:Below A.heap.size A C):KeepsFrom B A C:=⟨h.size,fun k _ _ ho _=>(h.block k (Array.getElem?_eq_some_iff.1 ho).1).trans ho⟩
theorem keeps_set{B:Nat}{W:World}{b t:Nat}{c:Array Value}(h:Blk W b t c)(o:Nat)(v:Value):KeepsFrom B W (W.setCell (Addr.mk b o none) v) :=
 ⟨by simp [World.setCell],fun k x _ hx hc=>(Below.heap_setCell _ _ _ _ (fun e=>by subst e;rw [show W.heap[k]?=_ from h] at hx;cases hx;cases hc)).trans hx⟩
theorem keeps_trans{B:Nat}{A C D:World}(h:KeepsFrom B A C)(g:KeepsFrom B C D):KeepsFrom B A D:=⟨Nat.le_trans h.size g.size,fun k o hk ho hc=>g.same k o hk (h.same k o hk ho hc) hc⟩
theorem own_far{β:Type}{B:Nat}{S:Nat→Prop}{w0:World}(hB:w0.heap.size≤B):OwnFrom B (fun (_:β) W=>Far S w0 W):=fun _ X Y row hs hg hr =>
 ⟨hg.os.trans hs.os,hg.tape.trans hs.tape,hg.output.trans hs.output,Nat.le_trans hs.size hg.size,fun k hk hn=>(hg.block k (Nat.lt_of_lt_of_le hk hs.size) (fun e=>by have:=(hr k e.symm).1;omega)).trans (hs.block k hk hn)⟩
theorem Far.aside{S:Nat→Prop}{N:Nat}{w0 A B:World}(h:Far S w0 A)(g:Aside N A B)(hN:w0.heap.size≤N):Far S w0 B :=
 ⟨g.os.trans h.os,g.tape.trans h.tape,g.output.trans h.output,Nat.le_trans h.size g.size,fun k hk hn=>by
   have:=h.block k hk hn
   rw [← this]
   have hlt:k<A.heap.size:=Nat.lt_of_lt_of_le hk h.size
   rw [Array.getElem?_eq_getElem hlt]
   exact g.block k _ (Array.getElem?_eq_getElem hlt) (.inl (by omega))⟩
theorem Blk.aside{W W':World}{b t N:Nat}{c:Array Value}(h:Blk W b t c)(g:Aside N W W')(hb:b<N):Blk W' b t c:=g.block _ _ h (.inl hb)
def mark(D:Nat):Deferred:={ target:=.collected D,args:=#[] }
theorem last_top(F:List Nd)(hl:∀ (q:Nat) (x:Nd),F[q]?=some x→0<x.l∧x.l≤32):∀ a,last F 32 a=0:=by
 intro a
 induction a with
 | zero=>rfl
 | succ a ih =>
   unfold last
   rw [if_neg,ih]
   unfold lev
   cases h:F[a+1]? with
   | none=>simp
   | some x=>have:=hl _ x h;simp;omega
theorem wp_load71{op:Oper}{a:Act}{w:World}{K:Act→World→Prop}{Q:Exit→Act→World→Prop}(x:Operand)(ho:op.op=.load 331 x)(b:Nat)(hx:a.eval x=.pointer (some ⟨b,0,none⟩)){A:Array Value}(hb:Blk w b 331 A)(hs:A.size=96)
   (h:K (a.put op.dst (.agg A)) w):op.wp Tryz.prog a w K Q:=by
 unfold Oper.wp execOp
 simp only [ho,hx,Sem.run_bind,Sem.run_pure,Result.andThen_ok,load71 hb hs]
 exact h
theorem wp_store71{op:Oper}{a:Act}{w:World}{K:Act→World→Prop}{Q:Exit→Act→World→Prop}(x y:Operand)(ho:op.op=.store 331 x y)(b:Nat)(hx:a.eval x=.pointer (some ⟨b,0,none⟩)){A B:Array Value}(hy:a.eval y=.agg B)(hb:Blk w b 331 A)(hs:A.size=96)(hs':B.size=96)(h1:B.all (·.oneCell')=true)
   (h:K (a.put op.dst undef) (w.setRow b B)):op.wp Tryz.prog a w K Q:=by
 unfold Oper.wp execOp
 simp only [ho,hx,hy,Sem.run_bind,Sem.run_pure,Result.andThen_ok,store71 hb hs hs' h1]
 exact h
theorem last_lev(F:List Nd)(hl:∀ (q:Nat) (x:Nd),F[q]?=some x→0<x.l∧x.l≤32)(h32:lev F 0=32)(j a:Nat)(hj:j<32):last F (j+1) a≤a∧j<lev F (last F (j+1) a):=by
 by_cases h:j+1<32
 · have:=last_spec F (j+1) (by omega) a
   exact ⟨this.1,by omega⟩
 · obtain rfl:j=31:=by omega
   rw [last_top F hl]
   omega
theorem results_cell{P:Program}{fn:Func}{i:Nat}{t:TypeId}(h:fn.results=#[.cell i t]){tmps:Array Value}{b:Addr}{v:Value}{W:World}(h2:tmps.getD i undef=.pointer (some b))(h3:(loadVar t b).run P W=.ok v W):(results fn tmps).run P W=.ok v W:=by
 unfold results
 rw [h]
 simp only [List.mapM_toArray,List.mapM_cons,List.mapM_nil,h2]
 simp [asAddr,h3]
theorem Blk.setOther3{W:World}{b b' t:Nat}{c:Array Value}(h:Blk W b t c)(hne:b≠b')(o1 o2 o3:Nat)(v1 v2 v3:Value):Blk (((W.setCell ⟨b',o1,none⟩ v1).setCell ⟨b',o2,none⟩ v2).setCell ⟨b',o3,none⟩ v3) b t c :=
 ((h.setOther o1 v1 hne).setOther o2 v2 hne).setOther o3 v3 hne
theorem Far.set3(b:Nat)(V:World)(o1 o2 o3:Nat)(v1 v2 v3:Value):Far (fun k=>k=b) V (((V.setCell ⟨b,o1,none⟩ v1).setCell ⟨b,o2,none⟩ v2).setCell ⟨b,o3,none⟩ v3) :=
 Far.set (S:=fun k=>k=b) (Far.set (S:=fun k=>k=b) (Far.set (S:=fun k=>k=b) (Far.refl _ V) ⟨b,o1,none⟩ v1 (.inl rfl)) ⟨b,o2,none⟩ v2 (.inl rfl)) ⟨b,o3,none⟩ v3 (.inl rfl)
def levelAt(W:World)(c:Nat):Int:=match W.cell? ⟨c,2,none⟩ with|some v=>intOf v|none=>0
structure LoopS (w:World) (F:List Nd) (a K:Nat) (caps zw:Array Value) (b0 bA k:Nat) (A:Array Value) (ds:List Nat) (W:World):Prop where
 kA:Blk W bA 329 (boxQ F k (last F k a))
 kW:Blk W (b0+1+1) 331 A
 size:A.size=96
 at':∀ j i,k≤j→j<32→i<3→A[j*3+i]?=(boxQ F j (last F j a))[i]?
 k0:Blk W b0 352 #[.func (.func K) #[] caps]
 kR:Blk W (b0+1) 331 zw
 below:Below b0 w W
 nodup:ds.Nodup
 marks:∀ D∈ds,W.heap[D]?=some (.deferred (some []))∧b0≤D
theorem LoopS.next{w:World}{F:List Nd}{a K:Nat}{caps zw:Array Value}{b0 bA j:Nat}{A:Array Value}{ds:List Nat}{W Wr V:World}(h:LoopS w F a K caps zw b0 bA (j+1) A ds W)(n0:b0≠bA∧b0+1≠bA∧b0+2≠bA)(n1:b0≤bA)
   (hWr:Far (fun b=>b=bA) W Wr) (hV:Far (fun b=>b=bA) Wr V) (hb:b0=w.heap.size) {D:Nat} (hD:Wr.heap.size≤D) (hVD:V.heap[D]?=some (.deferred (some []))) (kV:Blk V bA 329 (boxQ F j (last F j a))) (v:Value) (hv:adr F (last F j a)=v) :
   LoopS w F a K caps zw b0 bA j (((A.setIfInBounds (j*3) v).setIfInBounds (j*3+1) (.int .i64 ((last F j a:Int)-1))).setIfInBounds (j*3+2) (.int .i64 j)) (D :: ds)
     (((V.setCell ⟨b0+1+1,j*3,none⟩ v).setCell ⟨b0+1+1,j*3+1,none⟩ (.int .i64 ((last F j a:Int)-1))).setCell ⟨b0+1+1,j*3+2,none⟩ (.int .i64 j)):=by
 have f2:Far (fun b=>b=bA) W V:=hWr.trans hV (fun k e=>.inl e)
 have kWV:=f2.blk h.kW (by omega)
 have f3:=Far.set3 (b0+1+1) V (j*3) (j*3+1) (j*3+2) v (.int .i64 ((last F j a:Int)-1)) (.int .i64 j)
 have hs:=h.size
 refine ⟨Blk.setOther3 kV (by omega) _ _ _ _ _ _,((kWV.set (j*3) _).set (j*3+1) _).set (j*3+2) _,by simpa using h.size,?_,Blk.setOther3 (f2.blk h.k0 (by omega)) (by omega) _ _ _ _ _ _,Blk.setOther3 (f2.blk h.kR (by omega)) (by omega) _ _ _ _ _ _,?_,?_,?_⟩
 · intro j' i h1 h2 h3
   simp only [Array.getElem?_setIfInBounds,Array.size_setIfInBounds]
   by_cases e:j'=j
   · subst e
     unfold boxQ
     rw [hv]
     have h4:i=0∨i=1∨i=2:=by omega
     rcases h4 with rfl|rfl|rfl
     · rw [if_neg (by omega),if_neg (by omega),if_pos (by omega),if_pos (by omega)];rfl
     · rw [if_neg (by omega),if_pos (by omega),if_pos (by omega)];rfl
     · rw [if_pos (by omega),if_pos (by omega)];rfl
   · rw [if_neg (by omega),if_neg (by omega),if_neg (by omega)]
     exact h.at' j' i (by omega) h2 h3
 · have z1:=h.below.size
   have z2:=f2.size
   exact ⟨f3.os.trans (f2.os.trans h.below.os),f3.tape.trans (f2.tape.trans h.below.tape),f3.output.trans (f2.output.trans h.below.output),by have:=f3.size;omega,fun q hq =>
     (f3.block q (by omega) (by omega)).trans ((f2.block q (by omega) (by omega)).trans (h.below.block q hq))⟩
 · refine List.nodup_cons.2 ⟨fun e=>?_,h.nodup⟩
   have:=(Array.getElem?_eq_some_iff.1 (h.marks _ e).1).1
   have:=hWr.size
   omega
 · intro D' hD'
   have key:∀ o,V.heap[D']?=some (.deferred o)→(((V.setCell ⟨b0+1+1,j*3,none⟩ v).setCell ⟨b0+1+1,j*3+1,none⟩ (.int .i64 ((last F j a:Int)-1))).setCell ⟨b0+1+1,j*3+2,none⟩ (.int .i64 j)).heap[D']?=some (.deferred o):=by
     intro o ho
     have hne:D'≠b0+1+1:=fun e=>by
       subst e
       have:=(show V.heap[b0+1+1]?=_ from kWV).symm.trans ho
       cases this
     rw [Below.heap_setCell _ _ _ _ hne,Below.heap_setCell _ _ _ _ hne,Below.heap_setCell _ _ _ _ hne]
     exact ho
   have z1:=h.below.size
   have z2:=hWr.size
   rcases List.mem_cons.1 hD' with rfl|hD'
   · exact ⟨key _ hVD,by omega⟩
   · obtain ⟨y1,y2⟩:=h.marks _ hD'
     refine ⟨key _ ?_,y2⟩
     have y3:=(Array.getElem?_eq_some_iff.1 y1).1
     have hne:D'≠bA:=fun e=>by
       subst e
       have:=(show W.heap[D']?=_ from h.kA).symm.trans y1
       cases this
     exact (f2.block _ y3 hne).trans y1
theorem LoopS.lev{w:World}{F:List Nd}{a K:Nat}{caps zw:Array Value}{b0 bA k:Nat}{A:Array Value}{ds:List Nat}{W:World}(h:LoopS w F a K caps zw b0 bA k A ds W):levelAt W bA=(k:Int):=by unfold levelAt;rw [h.kA.cell 2];rfl
structure Asks (w:World) (F:List Nd) (a:Nat) (K:Nat) (caps:Array Value):Prop where
 enter:∀ args w,(callFunc K args).run Tryz.prog w=.ok (.enter K args) w
 call:∀ k q W,k<32→0<q→q<F.length→Below w.heap.size w W→Calls Tryz.prog K (#[stp F k q]++caps) W fun e w'=>e=.returned (.bool (decide (q≤a)))∧Below W.heap.size W w'
theorem down_any(p:Nat)(L:List Nd)(F:List Nd)(hF:F=hd p :: L)(ah:Nat→Value)(n:Int)(w:World)(hw:Sk w F (lk0 F) ah n)(hN:F.length≤1000000)(a:Nat)(ha:a<F.length)(K:Nat)(caps:Array Value)(hA:Asks w F a K caps) :
   Calls Tryz.prog 242 #[.pointer (some ⟨p,0,none⟩),.func (.func K) #[] caps] w fun e w'=>e=.returned (.agg (wayA F a))∧Below w.heap.size w w':=by
 refine (callsIn_wide (n:=6)).1 (callsIn_of_wp_marks Tryz.func242 rfl trivial ?_ rfl)
 refine wpIn_wide.2 ?_
 simp only [Tryz.ntmps242,List.size_toArray,List.length_cons,List.length_nil,Nat.reduceAdd,Nat.reduceSub,Array.replicate_succ,Array.replicate_zero,List.push_toArray,List.append_toArray,List.nil_append,List.cons_append]
 have hz:=zero71
 have h32:lev F 0=32:=by rw [hF];rfl
 have had:adr F 0=.pointer (some ⟨p,0,none⟩):=by rw [hF];rfl
 clear hF
 have HST:=fun w=>Lib.hid (start_any p 32 w)
 generalize hzw:zW=zw at *
 go_wp2_with fail
 refine (HST _).out.mono ?_
 rintro e w1 ⟨rfl,hb1⟩
 have k83:=((Blk.new w 352 #[.func (.func K) #[] caps]).alloc (Obj.cells zw 331)).alloc (Obj.cells zw 331)
 have kR:=(Blk.new (w.alloc (Obj.cells #[.func (.func K) #[] caps] 352)) 331 zw).alloc (Obj.cells zw 331)
 have kW:=Blk.new ((w.alloc (Obj.cells #[.func (.func K) #[] caps] 352)).alloc (Obj.cells zw 331)) 331 zw
 have hbw:Below w.heap.size w w1:=((((Below.refl _ _).alloc (Nat.le_refl _) _).alloc (by simp) _).alloc (by simp;omega) _).trans (hb1.mono (by simp;omega))
 have q83:=k83.later hb1
 have qR:=kR.later hb1
 have qW:=kW.later hb1
 simp only [World.size_alloc] at qR qW
 have HB:=Lib.hid hbw
 have H83:=Lib.hid q83
 have HR:=Lib.hid qR
 have HW:=Lib.hid qW
 clear hb1 k83 kR kW hbw q83 qR qW
 go_wp2_with fail
 rename_i K1 hK1
 have HK1:=Lib.hid hK1
 clear hK1
 have kA:=Blk.new w1 329 #[.pointer (some ⟨p,0,none⟩),.int .i64 (-1),.int .i64 32]
 have hb2:Below w1.heap.size w1 (w1.alloc (.cells #[.pointer (some ⟨p,0,none⟩),.int .i64 (-1),.int .i64 32] 329)):=(Below.refl _ _).alloc (Nat.le_refl _) _
 have k0:=H83.out.later hb2
 have kR:=HR.out.later hb2
 have kW:=HW.out.later hb2
 have hB2:=HB.out.trans (hb2.mono HB.out.size)
 have hz1:=HB.out.size
 generalize hw2:w1.alloc (.cells #[.pointer (some ⟨p,0,none⟩),.int .i64 (-1),.int .i64 32] 329)=w2 at *
 generalize hbA:w1.heap.size=bA at *
 have n0:w.heap.size≠bA∧w.heap.size+1≠bA∧w.heap.size+2≠bA:=by
   have h1:=HW.out.lt
   omega
 generalize hb0:w.heap.size=b0 at *
 have H83:=Lib.hid k0
 have HR:=Lib.hid kR
 have HW:=Lib.hid kW
 have HAt:=Lib.hid kA
 have HB2:=Lib.hid hB2
 clear hw2 HB HST k0 kR kW kA hb2 hB2
 refine wp_loop (fun ac W=>∃ (k:Nat) (A:Array Value) (ds:List Nat) (u2 u7 u8 u9 u10 u11 u12 u13 u14 u15 u16 u17 u18 u19 u20 u21 u22 u23 u24 u25 u26 u27 u28 u29:Value),ac={ tmps:=#[.pointer (some ⟨p,0,none⟩),.func (.func K) #[] caps,u2,.pointer (some ⟨b0,0,none⟩),.pointer (some ⟨(b0+1),0,none⟩),.pointer (some ⟨(b0+1+1),0,none⟩),.pointer (some ⟨bA,0,none⟩),u7,u8,u9,u10,u11,u12,u13,u14,u15,u16,u17,u18,u19,u20,u21,u22,u23,u24,u25,u26,u27,u28,u29],defers:=ds.map mark }∧k≤32∧LoopS w F a K caps zw b0 bA k A ds W)
   (fun _ W=>(levelAt W bA).toNat) ?start ?round
 case start =>
   refine ⟨32,zw,[],undef,undef,.pointer (some ⟨p,0,none⟩),_,undef,undef,undef,undef,undef,undef,undef,undef,undef,undef,undef,undef,undef,undef,undef,undef,undef,undef,undef,undef,rfl,Nat.le_refl _,?_,HW.out,?_,fun j i h1 h2=>absurd h2 (by omega),H83.out,HR.out,HB2.out,List.nodup_nil,fun D h=>by simp at h⟩
   · rw [last_top F hw.lev]
     unfold boxQ
     rw [had]
     exact HAt.out
   · rw [← hzw];exact zW_size
 case round =>
   rintro ac W ⟨k,A,ds,u2,u7,u8,u9,u10,u11,u12,u13,u14,u15,u16,u17,u18,u19,u20,u21,u22,u23,u24,u25,u26,u27,u28,u29,rfl,hk,hLS⟩
   have HLS:=Lib.hid hLS
   obtain ⟨kA,kW,hAs,hAt,k0,kR,hB,hnd,hds⟩:=hLS
   have hlv:levelAt W bA=(k:Int):=by unfold levelAt;rw [kA.cell 2];rfl
   obtain ⟨f0,f1,f2,f3,f4,f5⟩:=facts3 kA
   by_cases hk0:k=0
   · subst hk0
     have hAw:A=wayA F a:=wayA_of hAs (fun j i h1 h2=>hAt j i (by omega) h1 h2)
     have KW:=Lib.hid kW
     have KR0:=Lib.hid kR
     have KR:=Lib.hid (kR.setRow A)
     clear kA kW kR k0 hAt
     go_wp2_with fail
     refine HK1.out _ _ ?_
     refine wp_seq (wp_region_lit ?_)
     refine wpList_plain rfl fun K2 hK2=>wp_load71 _ rfl _ rfl KW.out hAs ?_
     refine hK2 _ _ (wpList_plain rfl fun K3 hK3=>wp_store71 _ _ rfl _ rfl rfl KR0.out ?_ hAs ?_ ?_)
     · rw [← hzw];exact zW_size
     · rw [hAw];exact way_one F a
     refine hK3 _ _ ?_
     go_wp2_with fail
     refine leavesM (v:=.agg A) ds _ hnd (fun D hD=>(setRow_other A (fun e=>?_)).trans (hds D hD).1) (fun W' z1 z2 z3 z4 z5=>?_)
     · have:=(hds D hD).1.symm.trans (e ▸ KR0.out)
       cases this
     · have kb:Blk W' (b0+1) 331 A:=(z5 _ (fun e=>by have:=(hds _ e).1.symm.trans KR0.out;cases this)).trans KR.out
       refine ⟨?_,by rw [hAw],?_⟩
       · exact results_cell (Tryz.results242) (b:=⟨b0+1,0,none⟩) rfl (loadVar71 kb hAs)
       · refine ⟨z2.trans hB.os,z3.trans hB.tape,z4.trans hB.output,by rw [z1,setRow_size];exact hB.size,fun q hq=>?_⟩
         rw [hb0] at hq
         exact (z5 q (fun e=>by have:=(hds _ e).2;omega)).trans ((setRow_other A (by omega)).trans (hB.block q hq))
   · obtain ⟨j,rfl⟩:∃ j,k=j+1:=⟨k-1,by omega⟩
     have KA:=Lib.hid kA
     have KW:=Lib.hid kW
     have KR:=Lib.hid kR
     have K0:=Lib.hid k0
     have HAT:=Lib.hid hAt
     have HND:=Lib.hid hnd
     have HDS:=Lib.hid hds
     clear kA kW kR k0 hAt hnd hds
     go_wp2_with fail
     refine wp_scope_straight ?_
     go_wp2_with fail
     refine wp_label ?_
     go_wp2_with fail
     rename_i K2 hK2
     have HK2:=Lib.hid hK2
     clear hK2
     obtain ⟨g1,g2⟩:=last_lev F hw.lev h32 j a (by omega)
     have hq0:last F (j+1) a<F.length:=by omega
     obtain ⟨x0,hx0⟩:∃ x0,F[last F (j+1) a]?=some x0:=⟨_,List.getElem?_eq_getElem hq0⟩
     have hl0:=lev_some hx0
     have kAr:Blk (W.setCell ⟨bA,2,none⟩ (.int .i64 j)) bA 329 (boxQ F j (last F (j+1) a)):=KA.out.set 2 (.int .i64 j)
     have hWr:Far (fun b=>b=bA) W (W.setCell ⟨bA,2,none⟩ (.int .i64 j)):=(Far.refl _ _).set _ _ (.inl rfl)
     have hsz:(W.setCell ⟨bA,2,none⟩ (.int .i64 j)).heap.size=W.heap.size:=by simp [World.setCell]
     generalize W.setCell ⟨bA,2,none⟩ (.int .i64 j)=Wr at *
     have hBr:Below b0 w Wr:=⟨hWr.os.trans hB.os,hWr.tape.trans hB.tape,hWr.output.trans hB.output,Nat.le_trans hB.size hWr.size,fun q hq=>by
       exact (hWr.block q (by have:=hB.size;omega) (by omega)).trans (hB.block q hq)⟩
     have hSr:Sk Wr F (lk0 F) ah n:=hw.later (by rw [hb0];exact hBr)
     have hnB:¬ isB F bA:=hSr.not_ty kAr (fun q=>(ty_ne q).1)
     have hAr:=kAr.lt
     have hseq:=forth_any F ah n Wr j (last F (j+1) a) x0 (by omega) hx0 (by omega) hN [bA] hSr (by simpa using hnB) (by simpa using hAr)
     have fin:∀ D V,Wr.heap.size≤D→Blk V bA 329 (boxQ F j (last F j a))→Far (fun b=>b=bA) Wr V→V.heap[D]?=some (.deferred (some [])) →
         K2 { tmps:=#[.pointer (some ⟨p,0,none⟩),.func (.func K) #[] caps,u2,.pointer (some ⟨b0,0,none⟩),.pointer (some ⟨b0+1,0,none⟩),.pointer (some ⟨b0+1+1,0,none⟩),.pointer (some ⟨bA,0,none⟩),u7,u8,u9,.pointer (some ⟨bA,2,none⟩),.int .i64 ((j:Int)+1),.bool true,.pointer (some ⟨bA,2,none⟩),.int .i64 ((j:Int)+1),.int .i64 j,.pointer (some ⟨bA,2,none⟩),.agg #[adr F (last F (j+1) a),.int .i64 ((last F (j+1) a:Int)-1),.int .i64 j],.func (.func 266) #[.agg #[adr F (last F (j+1) a),.int .i64 ((last F (j+1) a:Int)-1),.int .i64 j]] #[],u19,u20,u21,u22,u23,u24,u25,u26,u27,u28,u29],defers:=mark D :: ds.map mark } V:=by
       intro D V hD kV hV hVD
       refine HK2.out _ _ ?_
       have hlt:last F j a<F.length:=by have:=(last_spec F j (by omega) a).1;omega
       obtain ⟨z,hz2⟩:∃ z,F[last F j a]?=some z:=⟨_,List.getElem?_eq_getElem hlt⟩
       have haz:=adr_some hz2
       have kV0:=Lib.hid kV
       unfold boxQ at kV
       rw [haz] at kV
       obtain ⟨f0,f1,f2,f3,f4,f5⟩:=facts3 kV
       have kWV:=hV.blk (hWr.blk KW.out (by omega)) (by omega)
       have c0:=kWV.cell (j*3)
       have c1:=kWV.cell (j*3+1)
       have c2:=kWV.cell (j*3+2)
       rw [Array.getElem?_eq_getElem (by omega)] at c0 c1 c2
       have d0:=kWV.free (j*3)
       have d1:=kWV.free (j*3+1)
       have d2:=kWV.free (j*3+2)
       have HV:=Lib.hid hV
       have KV:=Lib.hid kV
       have KWV:=Lib.hid kWV
       clear hV kV kWV hseq
       go_wp2_with fail
       simp only [Exit.noGoto,Exit.inBlock]
       have hnx:=HLS.out.next n0 hz1 hWr HV.out hb0.symm hD hVD kV0.out _ haz
       refine ⟨⟨j,_,D :: ds,_,_,_,_,_,_,_,_,_,_,_,_,_,_,_,_,_,_,_,_,_,_,_,_,rfl,by omega,hnx⟩,?_⟩
       rw [hlv,hnx.lev]
       omega
     refine (wpIn_wide (n:=6)).1 (range_f (gf:=266) (encs:=encQ F j) (xs:=steps F j (last F (j+1) a)) (L:=[bA]) rfl (enters_of Tryz.func266 (by kernel_rfl) rfl) hseq (fun _ _=>rfl)
       (fun i V=>∃ q,q≤a∧j<lev F q∧q<F.length∧(steps F j (last F (j+1) a)).drop i=steps F j q∧Blk V bA 329 (boxQ F j q)∧Far (fun b=>b=bA) Wr V)
       (fun c _ V=>match c with
         | .exit id=>id=2∧Blk V bA 329 (boxQ F j (last F j a))∧Far (fun b=>b=bA) Wr V
         | _=>False)
       ?hI ?hIx ?hIa ?hIxa ?h0 (fun _ x a' V=>∃ c,(c≠bA∧Wr.heap.size≤c∧a'={ tmps:=#[.pointer (some ⟨p,0,none⟩),.func (.func K) #[] caps,u2,.pointer (some ⟨b0,0,none⟩),.pointer (some ⟨b0+1,0,none⟩),.pointer (some ⟨b0+1+1,0,none⟩),.pointer (some ⟨bA,0,none⟩),.pointer (some ⟨c,0,none⟩),u8,u9,.pointer (some ⟨bA,2,none⟩),.int .i64 ((j:Int)+1),.bool true,.pointer (some ⟨bA,2,none⟩),.int .i64 ((j:Int)+1),.int .i64 j,.pointer (some ⟨bA,2,none⟩),.agg #[adr F (last F (j+1) a),.int .i64 ((last F (j+1) a:Int)-1),.int .i64 j],.func (.func 266) #[.agg #[adr F (last F (j+1) a),.int .i64 ((last F (j+1) a:Int)-1),.int .i64 j]] #[],stp F j x,u20,u21,u22,u23,u24,u25,u26,u27,u28,u29],defers:=[] })∧Blk V c 329 (boxQ F j x)) ?hAx ?assign ?body ?done ?stop)
     case hI=>exact own_ex fun q=>(own_pure _ _).and ((own_pure _ _).and ((own_pure _ _).and ((own_pure _ _).and ((own_blk _ _ _ _).and (own_far (Nat.le_refl _))))))
     case hIx =>
       intro c
       cases c with
       | exit id=>exact (own_pure _ _).and ((own_blk _ _ _ _).and (own_far (Nat.le_refl _)))
       | _=>exact own_pure _ _
     case hIa =>
       rintro N hN2 i A B ⟨q,h1,h2,h3,h4,h5,h6⟩ hab
       exact ⟨q,h1,h2,h3,h4,h5.aside hab (by omega),h6.aside hab hN2⟩
     case hIxa =>
       rintro c N hN2 i A B h hab
       cases c with
       | exit id=>exact ⟨h.1,h.2.1.aside hab (by omega),h.2.2.aside hab hN2⟩
       | _=>exact h
     case h0=>exact ⟨_,g1,g2,hq0,rfl,kAr,Far.refl _ _⟩
     case hAx=>exact fun i x a'=>own_ex fun c=>(own_pure _ _).and (own_blk _ _ _ _)
     case assign =>
       rintro l i x V K' hx' ⟨q,h1,h2,h3,h4,h5,h6⟩ hK
       have hx2:=mem_steps.1 (List.mem_of_getElem? hx')
       obtain ⟨y,hy⟩:∃ y,F[x]?=some y:=⟨_,List.getElem?_eq_getElem hx2.2.1⟩
       have hay:=adr_some hy
       have HK3:=Lib.hid hK
       have HI:=Lib.hid (And.intro h1 (And.intro h2 (And.intro h3 (And.intro h4 (And.intro h5 h6)))))
       have hzV:=h6.size
       clear hK h1 h2 h3 h4 h5 h6 fin hseq hx'
       unfold encQ stp
       rw [hay]
       gi_wp2
       have hbV:=(Below.refl V.heap.size V).alloc (Nat.le_refl _) (Obj.cells #[Value.pointer (some ⟨y.b,0,none⟩),Value.int IntKind.i64 ((x:Int)-1),Value.int IntKind.i64 j] 329)
       obtain ⟨h1,h2,h3,h4,h5,h6⟩:=HI.out
       refine HK3.out _ _ (keeps_below hbV) (KeepC.of_below hbV) ⟨q,h1,h2,h3,h4,h5.later hbV,h6.then_below hbV⟩ ⟨V.heap.size,⟨?_,hzV,?_⟩,?_⟩
       · have:=h5.lt;omega
       · unfold stp;rw [hay]
       · unfold boxQ;rw [hay];exact Blk.new _ _ _
     case body =>
       rintro l i x a' V hx' ⟨q,h1,h2,h3,h4,h5,h6⟩ ⟨c,⟨hc1,hc2,rfl⟩,kc⟩
       have hx2:=mem_steps.1 (List.mem_of_getElem? hx')
       obtain ⟨y,hy⟩:∃ y,F[x]?=some y:=⟨_,List.getElem?_eq_getElem hx2.2.1⟩
       have hay:=adr_some hy
       have hxn:x=nxt F j q:=by
         have e1:=(nxt_spec F j q h3).2.2.2.2
         have e2:(steps F j q)[0]?=some x:=by
           rw [← h4,List.getElem?_drop]
           simpa using hx'
         rw [e1] at e2
         split at e2
         · simpa using e2.symm
         · simp at e2
       have hdx:(steps F j (last F (j+1) a)).drop (i+1)=steps F j x:=by
         have e1:=(nxt_spec F j q h3).2.2.2.2
         rw [← hxn] at e1
         rw [if_pos hx2.2.1] at e1
         have:=congrArg (List.drop 1) (h4.trans e1)
         simpa using this
       have k0V:=h6.blk (hWr.blk K0.out (by omega)) (by omega)
       have hcall:=hA.call j x V (by omega) (by omega) hx2.2.1 (by
         rw [hb0]
         have z1:=hBr.size
         exact ⟨h6.os.trans hBr.os,h6.tape.trans hBr.tape,h6.output.trans hBr.output,Nat.le_trans z1 h6.size,fun q hq=>(h6.block q (by omega) (by omega)).trans (hBr.block q hq)⟩)
       have henter:=hA.enter
       have kcF:=kc.free
       unfold boxQ at kc
       rw [hay] at kc
       obtain ⟨f0,f1,f2,f3,f4,f5⟩:=facts3 kc
       obtain ⟨e0,e1⟩:=facts1 k0V
       unfold stp at hcall
       rw [hay] at hcall
       have HC:=Lib.hid hcall
       have HXN:=Lib.hid hxn
       have HDX:=Lib.hid hdx
       clear hxn hdx
       have H5:=Lib.hid h5
       have H6:=Lib.hid h6
       have KC:=Lib.hid kc
       clear hcall h5 h6 kc k0V fin hseq kcF hx' hy
       gi_wp2
       refine ⟨trivial,?_⟩
       refine (CallsIn.inRound l (callsIn_wide.2 HC.out)).mono ?_
       rintro e W5 ⟨rfl,hb5⟩
       have kc5:=KC.out.later hb5
       have kA5:=H5.out.later hb5
       have hF5:=H6.out.then_below hb5
       have KA5:=Lib.hid kA5
       have HF5:=Lib.hid hF5
       have HB5:=Lib.hid hb5
       clear f0 f1 f2 f3 f4 f5 e0 e1
       by_cases hxa:x≤a
       · have hda:decide (x≤a)=true:=by simpa using hxa
         rw [hda]
         obtain ⟨f0,f1,f2,f3,f4,f5⟩:=facts3 kc5
         unfold boxQ at kA5
         obtain ⟨d0,d1,d2,d3,d4,d5⟩:=facts3 kA5
         clear kc5 kA5 hF5 hb5
         gi_wp2
         refine ⟨?_,?_,x,hxa,hx2.2.2,hx2.2.1,HDX.out,?_,?_⟩
         · exact keeps_trans (keeps_below HB5.out) (keeps_trans (keeps_set KA5.out 0 _) (keeps_trans (keeps_set (KA5.out.set 0 _) 1 _) (keeps_set ((KA5.out.set 0 _).set 1 _) 2 _)))
         · exact (KeepC.of_below HB5.out).trans ((KeepC.set _ _ _ _ (by simp)).trans ((KeepC.set _ _ _ _ (by simp)).trans (KeepC.set _ _ _ _ (by simp))))
         · have:=((KA5.out.set 0 (.pointer (some ⟨y.b,0,none⟩))).set 1 (.int .i64 ((x:Int)-1))).set 2 (.int .i64 j)
           unfold boxQ
           rw [hay]
           exact this
         · exact HF5.out.trans (Far.set3 bA W5 0 1 2 _ _ _) (fun k e=>.inl e)
       · have hda:decide (x≤a)=false:=by simpa using hxa
         rw [hda]
         gi_wp2
         refine ⟨keeps_below HB5.out,rfl,?_,HF5.out⟩
         have e1:=nxt_spec F j q h3
         have:=HXN.out
         rw [last_unique (by omega) h1 h2 (fun i hi1 hi2=>e1.2.2.1 i hi1 (by omega))]
         exact KA5.out
     case done =>
       rintro D V hD ⟨q,h1,h2,h3,h4,h5,h6⟩ hVD
       refine fin D V hD ?_ h6 hVD
       have e1:=(nxt_spec F j q h3)
       have e2:steps F j q=[]:=by rw [← h4];simp
       have e3:¬ nxt F j q<F.length:=fun e=>by
         have:=e1.2.2.2.2
         rw [if_pos e,e2] at this
         cases this
       rw [last_unique (by omega) h1 h2 (fun i hi1 hi2=>e1.2.2.1 i hi1 (by omega))]
       exact h5
     case stop =>
       rintro D c i V hD h hVD
       cases c with
       | exit id =>
         obtain ⟨rfl,h1,h2⟩:=h
         refine wpIn_wide.2 ?_
         go_wp2_with fail
         exact fin D V hD h1 h2 hVD
       | _=>exact h.elim
structure Ext (w1:World) where
 w:World
 ok:Below w1.heap.size w1 w
theorem Ext.cell{w1:World}(x:Ext w1){b o:Nat}{v:Value}(h:w1.cell? ⟨b,o,none⟩=some v):x.w.cell? ⟨b,o,none⟩=some v :=
 (x.ok.cell (p:=⟨b,o,none⟩) (World.block_lt_of_cell? w1 ⟨b,o,none⟩ h)).trans h
theorem Ext.one(w1:World):Nonempty (Ext w1):=⟨⟨w1,Below.refl _ _⟩⟩
theorem region_ext{P:Program}{id:Nat}{Q:Exit→Act→World→Prop}{a:Act}{w1 w:World}{l:List Oper}(hm:P.follows .mixedOrders=true)(hB:Region.lexB .any l.toArray=true)(hw:Below w1.heap.size w1 w)
   (h:wpQuiet P l.toArray (fun W=>∃ x:Ext w1,W=x.w) (fun a'=>∀ w',(∃ x:Ext w1,w'=x.w)→Q .normal a' w') l a):(Code.region id l.toArray true).wp P Q a w:=by
 exact wp_region_quiet (C:=fun W=>∃ x:Ext w1,W=x.w) hm hB ⟨⟨w.drew,hw.drew⟩,rfl⟩ h
theorem Ext.call{P:Program}{f:FuncId}{args:Array Value}{w1:World}(x:Ext w1){v:Value}(h:Calls P f args x.w fun e w'=>e=.returned v∧Below x.w.heap.size x.w w') :
   Calls P f args x.w fun e w''=>e=.returned v∧∃ y:Ext w1,w''=y.w :=
 h.mono fun _ w' ⟨he,hb⟩=>⟨he,⟨w',x.ok.trans (hb.mono x.ok.size)⟩,rfl⟩
theorem facts2{W:World}{b:Nat}{t:TypeId}{c0 c1:Value}(h:Blk W b t #[c0,c1]):W.cell? ⟨b,0,none⟩=some c0∧W.cell? ⟨b,1,none⟩=some c1∧W.frozen? ⟨b,0,none⟩=false∧W.frozen? ⟨b,1,none⟩=false :=
 ⟨h.cell 0,h.cell 1,h.free 0,h.free 1⟩
def lessE(m:ByteArray)(s:Int)(m':ByteArray)(s':Int):Bool:=decide (s<s'∨s=s'∧m.data.toList<m'.data.toList)
theorem bl_eq(a b:ByteArray):Op.bytesLess a.toList b.toList=decide (a.data.toList<b.data.toList):=by
 rw [Lib.toList_data,Lib.toList_data,bytesLess_eq]
theorem less_any(m m':ByteArray)(s s':Int)(w:World):Calls Tryz.prog 244 #[.agg #[.string m,.int .i64 s],.agg #[.string m',.int .i64 s']] w fun e w'=>e=.returned (.bool (lessE m s m' s'))∧Below w.heap.size w w':=by
 have hb:Below w.heap.size w ((w.alloc (.cells #[.string m,.int .i64 s] 117)).alloc (.cells #[.string m',.int .i64 s'] 117)):=((Below.refl _ _).alloc (Nat.le_refl _) _).alloc (by simp) _
 have HB:=Lib.hid hb
 clear hb
 by_cases h:s=s'
 · have e1:(s==s')=true:=by simpa using h
   have e2:(s != s')=false:=by simpa using h
   have H:=Lib.hid h
   clear h
   go_enter Tryz.func244,Tryz.ntmps244
   go_wp2
   go_ret
   refine ⟨congrArg (fun b=>Ending.returned (.bool b)) ?_,HB.out⟩
   rw [bl_eq]
   have:=H.out
   subst this
   simp [lessE]
 · have e1:(s==s')=false:=by simpa using h
   have e2:(s != s')=true:=by simpa using h
   go_enter Tryz.func244,Tryz.ntmps244
   go_wp2
   go_ret
   refine ⟨congrArg (fun b=>Ending.returned (.bool b)) ?_,HB.out⟩
   simp [lessE,h]
variable {w:World} {F:List Nd} {ah:Nat→Value} {n:Int}
theorem asks_place(c:Nat)(place:Int)(hc:Blk w c 3 #[.int .i64 place])(a:Nat)(ha:∀ q,0<q→q<F.length→(((q:Int)-1<place)↔q≤a)):Asks w F a 337 #[.pointer (some ⟨c,0,none⟩)]:=by
 refine ⟨enters_of Tryz.func337 (by kernel_rfl) rfl,fun k q W hk h0 hq hb=>?_⟩
 have k1:=hc.later hb
 obtain ⟨e0,e1⟩:=facts1 k1
 have z1:=k1.lt
 obtain ⟨x,hx⟩:∃ x,F[q]?=some x:=⟨_,List.getElem?_eq_getElem hq⟩
 have hax:=adr_some hx
 have hqa:=Lib.hid (ha q h0 hq)
 unfold stp
 rw [hax]
 clear hc ha h0 hq hb k1 hx hax
 go_enter Tryz.func337,Tryz.ntmps337
 go_wp2
 go_ret
 refine ⟨congrArg (fun b=>Ending.returned (.bool b)) ?_,(Below.refl _ _).alloc (Nat.le_refl _) _⟩
 rw [decide_eq_decide]
 exact hqa.out
theorem asks_entry(c:Nat)(m:ByteArray)(s:Int)(hc:Blk w c 117 #[.string m,.int .i64 s])(hw:Sk w F (lk0 F) ah n)(a:Nat)(ha:∀ q x,0<q→F[q]?=some x→lessE x.m x.s m s=decide (q≤a)):Asks w F a 243 #[.pointer (some ⟨c,0,none⟩)]:=by
 refine ⟨enters_of Tryz.func243 (by kernel_rfl) rfl,fun k q W hk h0 hq hb=>?_⟩
 have k1:=hc.later hb
 have hS:=hw.later hb
 obtain ⟨x,hx⟩:∃ x,F[q]?=some x:=⟨_,List.getElem?_eq_getElem hq⟩
 obtain ⟨A,hA,hN⟩:=hS.node q x hx
 have hax:=adr_some hx
 have hqa:=Lib.hid (ha q x h0 hx)
 unfold stp
 rw [hax]
 have HL:=fun w=>Lib.hid (less_any x.m m x.s s w)
 obtain ⟨w1,hw1⟩:∃ w1,w1=W.alloc (.cells #[.pointer (some ⟨x.b,0,none⟩),.int .i64 ((q:Int)-1),.int .i64 k] 329):=⟨_,rfl⟩
 have hb1:Below W.heap.size W w1:=by rw [hw1];exact (Below.refl _ _).alloc (Nat.le_refl _) _
 have kB:Blk w1 W.heap.size 329 #[.pointer (some ⟨x.b,0,none⟩),.int .i64 ((q:Int)-1),.int .i64 k]:=by rw [hw1];exact Blk.new _ _ _
 have q0:=fun y:Ext w1=>y.cell (facts3 kB).1
 have q1:=fun y:Ext w1=>y.cell ((hA.later hb1).cell 0 |>.trans hN.m)
 have q2:=fun y:Ext w1=>y.cell ((hA.later hb1).cell 1 |>.trans hN.s)
 have q3:=fun y:Ext w1=>y.cell (facts2 (k1.later hb1)).1
 have q4:=fun y:Ext w1=>y.cell (facts2 (k1.later hb1)).2.1
 have HW:=Lib.hid hw1
 have HB1:=Lib.hid hb1
 have hne:=Ext.one w1
 clear hc hw ha h0 hq hb k1 hS hx hA hN hax hw1 hb1 kB
 go_enter Tryz.func243,Tryz.ntmps243
 go_wp2_with fail
 rw [← HW.out]
 refine region_ext (w1:=w1) (by kernel_rfl) (by kernel_rfl) (Below.refl _ _) ?_
 iterate 8 go_big_quiet_step ((go_at_call 244;exact Ext.call _ (HL _).out))
 refine wpQuiet_nil ?_
 rintro _ ⟨y,rfl⟩
 go_wp2_with fail
 go_ret
 refine ⟨?_,HB1.out.trans (y.ok.mono HB1.out.size)⟩
 rw [← hqa.out]
 rfl
end Go.Proofs.YtlckdfoflimahaaGreatDoor.Sk

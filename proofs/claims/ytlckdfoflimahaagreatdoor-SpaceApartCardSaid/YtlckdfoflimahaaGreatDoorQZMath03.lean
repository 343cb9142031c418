/- Texts of one kind in one: ZMath, SkRange. -/
import Derived.WalkKit
import Derived.Test.YtlckdfoflimahaaGreatDoorRows
import Derived.RangeFuncNested
import Derived.RangeFuncBound
import Derived.RangeFuncCalls
import Derived.RangeFuncLeaves
import Derived.RangeFuncFrom
import Derived.Shelf.Abstract
import Derived.Shelf.RegionOpen
import Derived.WalkSpells
import Derived.WalkLawsBesides
import Derived.OwnWalkIn
import Derived.TacticsInMore
import Derived.LoopNIn
import Derived.LoopIn
import Derived.Lib.Hide
import Derived.Deep.RegionWith
import Derived.Deep.QuietTactic
import Derived.BigQuiet
import Derived.BigRegion
import Derived.WalkSmall
import Derived.Handy
import Derived.WalkMore
import Derived.IntWalk
set_option maxRecDepth 200000
set_option maxHeartbeats 8000000
namespace Go.Proofs.YtlckdfoflimahaaGreatDoor
abbrev En:=ByteArray × Int
def lessE(m:ByteArray)(s:Int)(m':ByteArray)(s':Int):Bool:=decide (s<s'∨s=s'∧m.data.toList<m'.data.toList)
theorem less_irr(a:ByteArray)(s:Int):lessE a s a s=false:=by
 simp only [lessE,decide_eq_false_iff_not]
 rintro (h|⟨_,h⟩)
 · omega
 · exact List.lt_irrefl _ h
theorem less_tr{a b c:ByteArray}{s t u:Int}(h:lessE a s b t=true)(g:lessE b t c u=true):lessE a s c u=true:=by
 simp only [lessE,decide_eq_true_eq] at *
 rcases h with h|⟨h,h'⟩ <;> rcases g with g|⟨g,g'⟩
 · exact .inl (by omega)
 · exact .inl (by omega)
 · exact .inl (by omega)
 · exact .inr ⟨by omega,List.lt_trans h' g'⟩
theorem less_or(a b:ByteArray)(s t:Int)(h:lessE a s b t=false)(hn:¬ (a=b∧s=t)):lessE b t a s=true:=by
 simp only [lessE,decide_eq_false_iff_not,decide_eq_true_eq] at *
 by_cases e:s=t
 · right
   refine ⟨e.symm,?_⟩
   have h1:¬ a.data.toList<b.data.toList:=fun h2=>h (.inr ⟨e,h2⟩)
   have h2:a.data.toList≠b.data.toList:=fun h2=>hn ⟨by cases a;cases b;simp at h2;rw [h2],e⟩
   rcases Std.le_total (a:=a.data.toList) (b:=b.data.toList) with h3|h3
   · exact absurd (Std.lt_of_le_of_ne h3 h2) h1
   · exact Std.lt_of_le_of_ne h3 (Ne.symm h2)
 · left
   have:¬ s<t:=fun h2=>h (.inl h2)
   omega
def SrtE(E:List En):Prop:=E.Pairwise fun x y=>lessE x.1 x.2 y.1 y.2=true
def Dist(E:List En):Prop:=E.Pairwise fun x y=>x.1≠y.1
def posE(E:List En)(m:ByteArray)(s:Int):Nat:=(E.takeWhile fun x=>lessE x.1 x.2 m s).length
def putE(E:List En)(m:ByteArray)(s:Int):List En:=E.take (posE E m s)++(m,s) :: E.drop (posE E m s)
def rmE(E:List En)(m:ByteArray):List En:=E.filter fun x=>decide (x.1≠m)
def addE(E:List En)(m:ByteArray)(s:Int):List En:=putE (rmE E m) m s
def hasE(E:List En)(m:ByteArray):Bool:=E.any fun x=>decide (x.1=m)
def whE(E:List En)(m:ByteArray):Option Nat:=E.findIdx? fun x=>decide (x.1=m)
theorem posE_le(E:List En)(m:ByteArray)(s:Int):posE E m s≤E.length:=by
 unfold posE;exact (List.takeWhile_sublist _).length_le
theorem posE_spec{E:List En}(hs:SrtE E)(m:ByteArray)(s:Int):∀ (i:Nat) (x:En),E[i]?=some x→lessE x.1 x.2 m s=decide (i<posE E m s):=by
 induction E with
 | nil=>intro i x h;simp at h
 | cons y E ih =>
   intro i x h
   have hs':SrtE E:=(List.pairwise_cons.1 hs).2
   by_cases hy:lessE y.1 y.2 m s=true
   · have hp:posE (y :: E) m s=posE E m s+1:=by simp [posE,hy]
     rw [hp]
     cases i with
     | zero=>simp at h;subst h;simpa using hy
     | succ i =>
       rw [ih hs' i x (by simpa using h)]
       simp
   · have hp:posE (y :: E) m s=0:=by simp [posE,hy]
     rw [hp]
     have hy':lessE y.1 y.2 m s=false:=by simpa using hy
     cases i with
     | zero=>simp at h;subst h;simpa using hy'
     | succ i =>
       have hx:x∈E:=List.mem_of_getElem? (by simpa using h:E[i]?=some x)
       have:=(List.pairwise_cons.1 hs).1 x hx
       cases hxe:lessE x.1 x.2 m s with
       | false=>simp
       | true=>exact absurd (less_tr this hxe) hy
theorem mem_putE{E:List En}{m:ByteArray}{s:Int}{x:En}:x∈putE E m s↔x=(m,s)∨x∈E:=by
 have h0:x∈E↔x∈E.take (posE E m s)∨x∈E.drop (posE E m s):=by
   rw [← List.mem_append,List.take_append_drop]
 unfold putE
 rw [List.mem_append,List.mem_cons,h0]
 constructor
 · rintro (h|h|h)
   · exact .inr (.inl h)
   · exact .inl h
   · exact .inr (.inr h)
 · rintro (h|h|h)
   · exact .inr (.inl h)
   · exact .inl h
   · exact .inr (.inr h)
theorem putE_perm(E:List En)(m:ByteArray)(s:Int):(putE E m s).Perm ((m,s) :: E):=by
 unfold putE
 refine List.perm_middle.trans ?_
 rw [List.take_append_drop]
theorem putE_len(E:List En)(m:ByteArray)(s:Int):(putE E m s).length=E.length+1:=(putE_perm E m s).length_eq
theorem srt_putE{E:List En}(hs:SrtE E)(m:ByteArray)(s:Int)(hn:(m,s) ∉ E):SrtE (putE E m s):=by
 have hsp:=posE_spec hs m s
 unfold putE
 refine List.pairwise_append.2 ⟨hs.sublist (List.take_sublist _ _),List.pairwise_cons.2 ⟨fun y hy=>?_,hs.sublist (List.drop_sublist _ _)⟩,fun y hy z hz=>?_⟩
 · have hyE:y∈E:=List.mem_of_mem_drop hy
   obtain ⟨i,hi⟩:=List.mem_iff_getElem?.1 hy
   rw [List.getElem?_drop] at hi
   have h1:=hsp _ y hi
   rw [show decide (posE E m s+i<posE E m s)=false by simp] at h1
   exact less_or _ _ _ _ h1 (fun e=>hn (by have e1:y=(m,s):=Prod.ext e.1 e.2;rw [← e1];exact hyE))
 · have hy1:lessE y.1 y.2 m s=true:=by
     obtain ⟨i,hi⟩:=List.mem_iff_getElem?.1 hy
     have hil:=(List.getElem?_eq_some_iff.1 hi).1
     rw [List.length_take] at hil
     rw [List.getElem?_take_of_lt (by omega)] at hi
     rw [hsp i y hi]
     simp;omega
   rcases List.mem_cons.1 hz with rfl|hz
   · exact hy1
   · obtain ⟨i,hi⟩:=List.mem_iff_getElem?.1 hy
     obtain ⟨j,hj⟩:=List.mem_iff_getElem?.1 hz
     have hil:=(List.getElem?_eq_some_iff.1 hi).1
     rw [List.length_take] at hil
     rw [List.getElem?_take_of_lt (by omega)] at hi
     rw [List.getElem?_drop] at hj
     obtain ⟨hi1,hi2⟩:=List.getElem?_eq_some_iff.1 hi
     obtain ⟨hj1,hj2⟩:=List.getElem?_eq_some_iff.1 hj
     have:=List.pairwise_iff_getElem.1 hs i _ hi1 hj1 (by omega)
     rw [hi2,hj2] at this
     exact this
theorem dist_iff(E:List En):Dist E↔(E.map (·.1)).Nodup:=by unfold Dist List.Nodup;rw [List.pairwise_map]
theorem dist_putE{E:List En}(hd:Dist E)(m:ByteArray)(s:Int)(hn:∀ x∈E,x.1≠m):Dist (putE E m s):=by
 have h:=putE_perm E m s
 rw [dist_iff,(h.map (·.1)).nodup_iff,← dist_iff]
 exact List.pairwise_cons.2 ⟨fun y hy e=>hn y hy e.symm,hd⟩
theorem mem_rmE{E:List En}{m:ByteArray}{x:En}:x∈rmE E m↔x∈E∧x.1≠m:=by unfold rmE;simp [List.mem_filter]
theorem srt_rmE{E:List En}(hs:SrtE E)(m:ByteArray):SrtE (rmE E m):=hs.sublist List.filter_sublist
theorem dist_rmE{E:List En}(hd:Dist E)(m:ByteArray):Dist (rmE E m):=hd.sublist List.filter_sublist
theorem rmE_none{E:List En}{m:ByteArray}(h:∀ x∈E,x.1≠m):rmE E m=E:=by
 unfold rmE;exact List.filter_eq_self.2 fun x hx=>by simpa using h x hx
theorem rmE_at{E:List En}(hd:Dist E){i:Nat}{x:En}(hx:E[i]?=some x):rmE E x.1=E.take i++E.drop (i+1):=by
 obtain ⟨hi,he⟩:=List.getElem?_eq_some_iff.1 hx
 have h1:E=E.take i++x :: E.drop (i+1):=by rw [← he,← List.drop_eq_getElem_cons hi,List.take_append_drop]
 have hd2:Dist (E.take i++x :: E.drop (i+1)):=by rw [← h1];exact hd
 obtain ⟨_,h3,h4⟩:=List.pairwise_append.1 hd2
 have h5:=(List.pairwise_cons.1 h3).1
 have e1:rmE (E.take i) x.1=E.take i:=rmE_none fun y hy=>h4 y hy x (List.mem_cons_self ..)
 have e2:rmE (E.drop (i+1)) x.1=E.drop (i+1):=rmE_none fun y hy e=>h5 y hy e.symm
 have e3:rmE E x.1=rmE (E.take i++x :: E.drop (i+1)) x.1:=by rw [← h1]
 rw [e3]
 unfold rmE at *
 rw [List.filter_append,List.filter_cons_of_neg (by simp),e1,e2]
theorem whE_some{E:List En}{m:ByteArray}{i:Nat}(h:whE E m=some i):∃ s,E[i]?=some (m,s):=by
 unfold whE at h
 obtain ⟨hi,h1,_⟩:=List.findIdx?_eq_some_iff_getElem.1 h
 refine ⟨E[i].2,?_⟩
 rw [List.getElem?_eq_getElem hi]
 have:E[i].1=m:=by simpa using h1
 rw [← this]
theorem whE_none{E:List En}{m:ByteArray}(h:whE E m=none):∀ x∈E,x.1≠m:=by
 unfold whE at h
 rw [List.findIdx?_eq_none_iff] at h
 intro x hx
 simpa using h x hx
theorem whE_at{E:List En}(hd:Dist E){i:Nat}{x:En}(hx:E[i]?=some x):whE E x.1=some i:=by
 cases h:whE E x.1 with
 | none=>exact absurd rfl (whE_none h x (List.mem_of_getElem? hx))
 | some j =>
   obtain ⟨s,hs⟩:=whE_some h
   obtain ⟨hi,he⟩:=List.getElem?_eq_some_iff.1 hx
   obtain ⟨hj,he2⟩:=List.getElem?_eq_some_iff.1 hs
   rcases Nat.lt_trichotomy i j with h|h|h
   · exact absurd (by rw [he,he2]) (List.pairwise_iff_getElem.1 hd i j hi hj h)
   · rw [h]
   · exact absurd (by rw [he,he2]) (List.pairwise_iff_getElem.1 hd j i hj hi h)
theorem hasE_iff{E:List En}{m:ByteArray}:hasE E m=true↔∃ s,(m,s)∈E:=by
 unfold hasE
 rw [List.any_eq_true]
 constructor
 · rintro ⟨x,hx,h⟩
   have:x.1=m:=by simpa using h
   exact ⟨x.2,by rw [← this];exact hx⟩
 · rintro ⟨s,hs⟩
   exact ⟨_,hs,by simp⟩
theorem hasE_wh(E:List En)(m:ByteArray):hasE E m=(whE E m).isSome:=by
 cases h:whE E m with
 | none =>
   cases h2:hasE E m with
   | false=>rfl
   | true=>obtain ⟨s,hs⟩:=hasE_iff.1 h2;exact absurd rfl (whE_none h _ hs)
 | some i =>
   obtain ⟨s,hs⟩:=whE_some h
   exact hasE_iff.2 ⟨s,List.mem_of_getElem? hs⟩
theorem pos_selfE{E:List En}(hs:SrtE E){i:Nat}{x:En}(hx:E[i]?=some x):posE E x.1 x.2=i:=by
 have h1:=posE_spec hs x.1 x.2 i x hx
 rw [less_irr] at h1
 have h2:¬ i<posE E x.1 x.2:=by simpa using h1.symm
 obtain ⟨hi,he⟩:=List.getElem?_eq_some_iff.1 hx
 rcases Nat.lt_or_ge (posE E x.1 x.2) i with h|h
 · have hj:E[posE E x.1 x.2]?=some E[posE E x.1 x.2]:=List.getElem?_eq_getElem (by omega)
   have h4:=posE_spec hs x.1 x.2 _ _ hj
   have h5:=List.pairwise_iff_getElem.1 hs (posE E x.1 x.2) i (by omega) hi h
   rw [he,h4] at h5
   simp at h5
 · omega
theorem addE_len{E:List En}(hd:Dist E)(m:ByteArray)(s:Int):(addE E m s).length=if hasE E m then E.length else E.length+1:=by
 unfold addE
 rw [putE_len,hasE_wh]
 cases h:whE E m with
 | none=>rw [rmE_none (whE_none h)];rfl
 | some i =>
   obtain ⟨t,ht⟩:=whE_some h
   have hi:=(List.getElem?_eq_some_iff.1 ht).1
   have:=rmE_at hd ht
   simp only at this
   rw [this]
   simp
   omega
theorem rmE_len{E:List En}(hd:Dist E)(m:ByteArray):(rmE E m).length=if hasE E m then E.length-1 else E.length:=by
 have h1:=addE_len hd m 0
 unfold addE at h1
 rw [putE_len] at h1
 cases h:hasE E m with
 | true=>rw [h] at h1;simp at h1 ⊢;omega
 | false=>rw [h] at h1;simp at h1 ⊢;omega
theorem srt_addE{E:List En}(hs:SrtE E)(m:ByteArray)(s:Int):SrtE (addE E m s):=srt_putE (srt_rmE hs m) m s fun h=>(mem_rmE.1 h).2 rfl
theorem dist_addE{E:List En}(hd:Dist E)(m:ByteArray)(s:Int):Dist (addE E m s):=dist_putE (dist_rmE hd m) m s fun _ h=>(mem_rmE.1 h).2
theorem mem_addE{E:List En}{m:ByteArray}{s:Int}{x:En}:x∈addE E m s↔x=(m,s)∨x∈E∧x.1≠m:=by unfold addE;rw [mem_putE,mem_rmE]
def MapOf(m:ByteArray→Option Int)(E:List En):Prop:=∀ k v,m k=some v↔(k,v)∈E
def putI(m:ByteArray→Option Int)(key:ByteArray)(v:Int):ByteArray→Option Int:=fun k=>if k=key then some v else m k
def remI(m:ByteArray→Option Int)(key:ByteArray):ByteArray→Option Int:=fun k=>if k=key then none else m k
theorem MapOf.put{m:ByteArray→Option Int}{E:List En}(h:MapOf m E)(k:ByteArray)(v:Int):MapOf (putI m k v) (addE E k v):=fun k' v'=>by
 rw [mem_addE,← h k' v']
 unfold putI
 by_cases e:k'=k
 · subst e;simp [eq_comm]
 · simp [e]
theorem MapOf.rem{m:ByteArray→Option Int}{E:List En}(h:MapOf m E)(k:ByteArray):MapOf (remI m k) (rmE E k):=fun k' v'=>by
 rw [mem_rmE,← h k' v']
 unfold remI
 by_cases e:k'=k
 · subst e;simp
 · simp [e]
def rmAll(E:List En)(l:List En):List En:=l.foldl (fun E x=>rmE E x.1) E
def remAll(m:ByteArray→Option Int)(l:List En):ByteArray→Option Int:=l.foldl (fun m x=>remI m x.1) m
theorem MapOf.remAll{l:List En}:∀ {m:ByteArray→Option Int} {E:List En},MapOf m E→MapOf (remAll m l) (rmAll E l):=by
 induction l with
 | nil=>intro m E h;exact h
 | cons x l ih=>intro m E h;exact ih (h.rem x.1)
theorem rmAll_mid{A M B:List En}(hd:Dist (A++M++B)):rmAll (A++M++B) M=A++B:=by
 induction M generalizing A with
 | nil=>simp [rmAll]
 | cons x M ih =>
   show rmAll (rmE (A++(x :: M)++B) x.1) M=_
   have h1:(A++(x :: M)++B)[A.length]?=some x:=by simp
   rw [rmE_at hd h1]
   have h2:(A++x :: M++B).take A.length=A:=by simp
   have h3:(A++x :: M++B).drop (A.length+1)=M++B:=by simp [List.drop_append]
   rw [h2,h3,← List.append_assoc]
   refine ih ?_
   refine hd.sublist ?_
   simp
def f0(f:Int):Nat:=(max f 0).toNat
def t0(t:Int)(n:Nat):Nat:=(min t n).toNat
def subE(E:List En)(f t:Int):List En:=(E.drop (f0 f)).take (t0 t E.length-f0 f)
def cutE(E:List En)(f t:Int):List En:=if f0 f<t0 t E.length then E.take (f0 f)++E.drop (t0 t E.length) else E
theorem subE_len(E:List En)(f t:Int):(subE E f t).length=t0 t E.length-f0 f:=by
 unfold subE
 rw [List.length_take,List.length_drop]
 unfold t0
 omega
theorem subE_all(E:List En):subE E 0 E.length=E:=by
 unfold subE f0 t0
 simp
theorem sub_cut(E:List En)(f t:Int)(h:f0 f<t0 t E.length):E=E.take (f0 f)++subE E f t++E.drop (t0 t E.length):=by
 unfold subE
 have h1:(E.drop (f0 f)).drop (t0 t E.length-f0 f)=E.drop (t0 t E.length):=by
   rw [List.drop_drop];congr 1;omega
 rw [← h1,List.append_assoc,List.take_append_drop,List.take_append_drop]
theorem rmAll_cut{E:List En}(hd:Dist E)(f t:Int):rmAll E (subE E f t)=cutE E f t:=by
 unfold cutE
 by_cases h:f0 f<t0 t E.length
 · rw [if_pos h]
   have h1:=sub_cut E f t h
   have hd2:=hd
   rw [h1] at hd2
   have:=rmAll_mid hd2
   rw [← h1] at this
   exact this
 · rw [if_neg h]
   have:subE E f t=[]:=List.eq_nil_of_length_eq_zero (by rw [subE_len];omega)
   rw [this]
   rfl
theorem cutE_len(E:List En)(f t:Int):(cutE E f t).length=E.length-(subE E f t).length:=by
 unfold cutE
 rw [subE_len]
 split
 · simp;unfold t0 at *;omega
 · omega
theorem srt_cutE{E:List En}(hs:SrtE E)(f t:Int):SrtE (cutE E f t):=by
 unfold cutE
 split
 · next h =>
   refine hs.sublist ?_
   conv=>rhs;rw [sub_cut E f t h,List.append_assoc]
   exact (List.Sublist.refl _).append (List.sublist_append_right _ _)
 · exact hs
theorem dist_cutE{E:List En}(hs:Dist E)(f t:Int):Dist (cutE E f t):=by
 unfold cutE
 split
 · next h =>
   refine hs.sublist ?_
   conv=>rhs;rw [sub_cut E f t h,List.append_assoc]
   exact (List.Sublist.refl _).append (List.sublist_append_right _ _)
 · exact hs
theorem mem_cutE{E:List En}{f t:Int}{x:En}(h:x∈cutE E f t):x∈E:=by
 unfold cutE at h
 split at h
 · rcases List.mem_append.1 h with h|h
   · exact List.mem_of_mem_take h
   · exact List.mem_of_mem_drop h
 · exact h
theorem cut_one{E:List En}(hd:Dist E){i:Nat}{x:En}(hx:E[i]?=some x):cutE E i (i+1:Int)=rmE E x.1:=by
 have hi:=(List.getElem?_eq_some_iff.1 hx).1
 have e1:f0 (i:Int)=i:=by unfold f0;omega
 have e2:t0 ((i:Int)+1) E.length=i+1:=by unfold t0;omega
 unfold cutE
 rw [e1,e2,if_pos (by omega),rmE_at hd hx]
end Go.Proofs.YtlckdfoflimahaaGreatDoor
namespace Go.Proofs.YtlckdfoflimahaaGreatDoor.Sk
open Go.RowKit Go.Shelf
attribute [local go_sem] Oper.semAt_some
theorem heap_at{w:World}{o:Obj}{k:Nat}(h:k=w.heap.size):(w.alloc o).heap[k]?=some o:=by subst h;exact heap_alloc_new w o
def itT(t:TypeId):Prop:=t=329∨t=301∨t=304∨t=306
structure KeepC (L:List Nat) (A B:World):Prop where
 size:A.heap.size≤B.heap.size
 same:∀ (k:Nat) (c:Array Value) (t:TypeId),k ∉ L→itT t→A.heap[k]?=some (.cells c t (0,0))→B.heap[k]?=some (.cells c t (0,0))
theorem KeepC.trans{L:List Nat}{A B C:World}(h:KeepC L A B)(g:KeepC L B C):KeepC L A C:=⟨Nat.le_trans h.size g.size,fun k c t hk hc ho=>g.same k c t hk hc (h.same k c t hk hc ho)⟩
theorem KeepC.of_below{L:List Nat}{A B:World}(h:Below A.heap.size A B):KeepC L A B:=⟨h.size,fun k _ _ _ _ ho=>(h.block k (Array.getElem?_eq_some_iff.1 ho).1).trans ho⟩
theorem KeepC.put{L:List Nat}(W:World)(l:Nat)(o o':Obj)(hl:W.heap[l]?=some o)(hc:o.isCells=false):KeepC L W (W.putObj l o') :=
 ⟨by simp [World.putObj],fun k c t _ _ hk=>by
   by_cases e:k=l
   · subst e;rw [hl] at hk;cases hk;cases hc
   · exact (World.putObj_heap_other e).trans hk⟩
theorem KeepC.set{L:List Nat}(W:World)(b o:Nat)(v:Value)(hb:b∈L):KeepC L W (W.setCell ⟨b,o,none⟩ v) :=
 ⟨by simp [World.setCell],fun k c t hk _ hx=>(Below.heap_setCell _ _ _ k (fun e=>hk (by rw [e];exact hb))).trans hx⟩
theorem KeepC.of_grownBy{L:List Nat}{A B:World}{row:Option Nat}(h:A.grownBy B row)(hr:∀ k c t,row=some k→A.heap[k]?=some (.cells c t (0,0))→¬ itT t):KeepC L A B :=
 ⟨h.size,fun k c t _ ht hk=>by
   by_cases e:some k=row
   · exact absurd ht (hr k c t e.symm hk)
   · exact (h.block k (Array.getElem?_eq_some_iff.1 hk).1 e).trans hk⟩
structure Aside (N:Nat) (A B:World):Prop where
 os:B.os=A.os
 tape:B.tape=A.tape
 output:B.output=A.output
 size:A.heap.size≤B.heap.size
 block:∀ k o,A.heap[k]?=some o→(k<N∨∀ c,o≠.cells c 329 (0,0))→B.heap[k]?=some o
theorem Aside.of_below{N:Nat}{A B:World}(h:Below A.heap.size A B):Aside N A B:=⟨h.os,h.tape,h.output,h.size,fun k _ hk _=>(h.block k (Array.getElem?_eq_some_iff.1 hk).1).trans hk⟩
theorem Aside.trans{N:Nat}{A B C:World}(h:Aside N A B)(g:Aside N B C):Aside N A C:=⟨g.os.trans h.os,g.tape.trans h.tape,g.output.trans h.output,Nat.le_trans h.size g.size,fun k o hk hn=>g.block k o (h.block k o hk hn) hn⟩
theorem Aside.set{N:Nat}(W:World)(b o:Nat)(v:Value){c:Array Value}(hb:W.heap[b]?=some (.cells c 329 (0,0)))(hn:N≤b):Aside N W (W.setCell ⟨b,o,none⟩ v) :=
 ⟨rfl,rfl,rfl,by simp [World.setCell],fun k o' hk h=>by
   have hne:k≠b:=fun e=>by
     subst e
     rw [hb] at hk
     cases hk
     rcases h with h|h
     · omega
     · exact h _ rfl
   exact (Below.heap_setCell _ _ _ k hne).trans hk⟩
def Abides(N:Nat)(J:Nat→World→Prop):Prop:=∀ i A B,J i A→Aside N A B→J i B
def RoundX(L:List Nat)(J Jx:Nat→World→Prop)(i:Nat)(W:World)(e:Ending)(W':World):Prop :=
 (e=.returned (.bool true)∧J (i+1) W'∧KeepC L W W')∨(e=.returned (.bool false)∧Jx (i+1) W')
def SeqF{α:Type}(P:Program)(g:Nat)(fb lb:Array Value)(encs:Nat→α→Array Value)(xs:List α)(L:List Nat)(w:World):Prop :=
 ∀ (l:Nat) (J Jx:Nat→World→Prop) (W:World),Below w.heap.size w W→Abides W.heap.size J→Abides W.heap.size Jx →
   (∀ i x W1,xs[i]?=some x→J i W1→YieldAt Fence.wide 4 P l (encs i x) W1 (RoundX L J Jx i W1))→J 0 W →
   CallsIn Fence.wide 5 P g (fb++#[.func (.yield l) #[] #[]]++lb) W fun e W'=>(∃ v,e=.returned v)∧(J xs.length W'∨∃ i,Jx i W')
def bodyX(B:Nat)(L:List Nat)(I:Nat→World→Prop)(Ix:Code→Nat→World→Prop)(i:Nat)(W:World):Exit→Act→World→Prop
 | .normal,_,W'=>KeepsFrom B W W'∧KeepC L W W'∧I (i+1) W'
 | .ret,_,W'=>KeepsFrom B W W'∧Ix .ret (i+1) W'
 | .exit id,_,W'=>KeepsFrom B W W'∧Ix (.exit id) (i+1) W'
 | _,_,_=>False
theorem below_grown{A B:World}(h:Below A.heap.size A B):A.grownBy B none:=⟨h.os,h.tape,h.output,h.size,fun q hq _=>h.block q hq⟩
theorem range_f{α:Type}{P:Program}{g:Operand}{ps:Array Tmp}{assign body:Code}{Q:Exit→Act→World→Prop}{a:Act}{w:World}
   {gf:Nat} {fb lb:Array Value} (hg:a.eval g=.func (.func gf) fb lb) (eg:∀ args w,(callFunc gf args).run P w=.ok (.enter gf args) w)
   {encs:Nat→α→Array Value} {xs:List α} {L:List Nat} (hseq:SeqF P gf fb lb encs xs L w) (hps:∀ i x,(encs i x).size=ps.size)
   (I:Nat→World→Prop) (Ix:Code→Nat→World→Prop) (hI:OwnFrom w.heap.size I) (hIx:∀ c,OwnFrom w.heap.size (Ix c)) (hIa:∀ N,w.heap.size≤N→Abides N I) (hIxa:∀ c N,w.heap.size≤N→Abides N (Ix c)) (h0:I 0 w)
   (Ax:Nat→α→Act→World→Prop) (hAx:∀ i x a',OwnFrom w.heap.size (fun (_:Unit) W=>Ax i x a' W))
   (hassign:∀ (l i:Nat) (x:α) (W:World) (K:Act→World→Prop),xs[i]?=some x→I i W→(∀ a' W',KeepsFrom w.heap.size W W'→KeepC L W W'→I i W'→Ax i x a' W'→K a' W') →
     assign.wpIn (Fence.wide.inRound l) 4 P (Exit.then K (fun _ _ _=>False)) { tmps:=(ps.zip (encs i x)).foldl (fun t (p,v)=>t.setIfInBounds p v) a.tmps,defers:=[] } W)
   (hbody:∀ (l i:Nat) (x:α) (a':Act) (W:World),xs[i]?=some x→I i W→Ax i x a' W→body.wpIn (Fence.wide.inRound l) 4 P (bodyX w.heap.size L I Ix i W) a' W)
   (hdone:∀ (D:Nat) (W:World),w.heap.size≤D→I xs.length W→W.heap[D]?=some (.deferred (some []))→Q .normal { a with defers:={ target:=.collected D,args:=#[] } :: a.defers } W)
   (hstop:∀ (D:Nat) (c:Code) (i:Nat) (W:World),w.heap.size≤D→Ix c i W→W.heap[D]?=some (.deferred (some []))→c.wpIn Fence.wide 6 P Q { a with defers:={ target:=.collected D,args:=#[] } :: a.defers } W) :
   (Code.rangeFunc g ps assign body).wpIn Fence.wide 6 P Q a w:=by
 refine wpIn_rangeFunc ?_
 intro fn hfn
 obtain ⟨rc,hrc⟩:∃ rc:LoopState→Option Code→Loop,rc=fun st pe=>{ state:=st,pending:=pe,fn,tmps:=a.tmps,params:=ps,assign,body,defers:=w.heap.size }:=⟨_,rfl⟩
 obtain ⟨W1,hW1⟩:∃ W1,(w.alloc (.deferred (some []))).alloc (.loop (rc .ready none))=W1:=⟨_,rfl⟩
 have hL1:W1.heap[w.heap.size+1]?=some (.loop (rc .ready none)):=by rw [← hW1];exact heap_at (by simp)
 have hK1:W1.heap[w.heap.size]?=some (.deferred (some [])):=by rw [← hW1];exact (Below.heap_alloc _ _ _ (by simp)).trans (heap_at rfl)
 have hI1:I 0 W1:=by rw [← hW1];exact hI.alloc _ (hI.alloc _ h0)
 have hb1:Below w.heap.size w W1:=by rw [← hW1];exact ((Below.refl _ w).alloc (Nat.le_refl _) _).alloc (by simp) _
 have hs1:w.heap.size+2=W1.heap.size:=by rw [← hW1];simp
 have hIb:=hIa W1.heap.size (by omega)
 have hIxb:=fun c=>hIxa c W1.heap.size (by omega)
 refine ⟨w.heap.size+1,[{ target:=.collected w.heap.size,args:=#[] }],W1,{ target:=.fn (.func gf) lb,args:=fb++#[.func (.yield (w.heap.size+1)) #[] #[]] },W1,gf,
   fb++#[.func (.yield (w.heap.size+1)) #[] #[]]++lb,W1,?_,?_,?_,?_,fun _=>by decide,?_⟩
 · rw [← hW1,hrc];exact run_enterLoop_outer _ _ _ _ _
 · simp only [resolve,hg]
   simp [go_sem]
 · intro f' _;trivial
 · simp [invoke,go_sem,eg]
 · have keep:∀ {A B:World} {k:Nat} {o:Obj},Aside W1.heap.size A B→k<W1.heap.size→A.heap[k]?=some o→B.heap[k]?=some o:=fun hb hl hk=>hb.block _ _ hk (.inl hl)
   refine (hseq (w.heap.size+1)
     (fun i W=>I i W∧W.heap[w.heap.size+1]?=some (.loop (rc .ready none))∧W.heap[w.heap.size]?=some (.deferred (some [])))
     (fun i W=>∃ c,Ix c i W∧W.heap[w.heap.size+1]?=some (.loop (rc .done (some c)))∧W.heap[w.heap.size]?=some (.deferred (some [])))
     W1 hb1
     (fun i A B hs hb=>⟨hIb i A B hs.1 hb,keep hb (by omega) hs.2.1,keep hb (by omega) hs.2.2⟩)
     (fun i A B hs hb=>by obtain ⟨c,h1,h2,h3⟩:=hs;exact ⟨c,hIxb c i A B h1 hb,keep hb (by omega) h2,keep hb (by omega) h3⟩)
     ?_ ⟨hI1,hL1,hK1⟩).mono ?_
   · rintro i x W hx ⟨hi,hl,hk⟩
     have hy:=run_yield (P:=P) (args:=encs i x) hl (by rw [hrc];exact hps i x)
     rw [hrc] at hy
     refine ⟨fn,_,assign,body,hy,roundIn_of_wpIn hfn (hassign _ i x W _ hx hi ?_)⟩
     clear hy
     intro a' Wa hkfa hkpa hia hax
     have hla:=hkfa.same _ _ (by omega) hl rfl
     have hka:=hkfa.same _ _ (Nat.le_refl _) hk rfl
     have hlt:w.heap.size+1<Wa.heap.size:=(Array.getElem?_eq_some_iff.1 hla).1
     refine ⟨_,run_beginRound hla (by rw [hrc]),?_⟩
     have hl2:(Wa.putObj (w.heap.size+1) (.loop { rc .ready none with state:=.busy })).heap[w.heap.size+1]?=some (.loop { rc .ready none with state:=.busy }):=World.putObj_heap_same hlt
     have hk2:(Wa.putObj (w.heap.size+1) (.loop { rc .ready none with state:=.busy })).heap[w.heap.size]?=some (.deferred (some [])):=(World.putObj_heap_other (by omega)).trans hka
     have hw2:KeepC L Wa (Wa.putObj (w.heap.size+1) (.loop { rc .ready none with state:=.busy })):=KeepC.put _ _ _ _ hla rfl
     refine wpIn_mono (hbody _ i x a' _ hx (hI.putObj _ hia (by omega) hla rfl) ((hAx i x a').putObj (s:=()) _ hax (by omega) hla rfl)) ?_
     have fin:∀ (jump:Option Code) (W3:World),KeepsFrom w.heap.size (Wa.putObj (w.heap.size+1) (.loop { rc .ready none with state:=.busy })) W3 →
         (Instr.endRound (w.heap.size+1) jump).run P W3=.ok (.bool jump.isNone) (W3.putObj (w.heap.size+1) (.loop (rc (if jump.isNone then .ready else .done) jump))) ∧
         W3.heap[w.heap.size+1]?=some (.loop { rc .ready none with state:=.busy }) ∧
         (W3.putObj (w.heap.size+1) (.loop (rc (if jump.isNone then .ready else .done) jump))).heap[w.heap.size+1]?=some (.loop (rc (if jump.isNone then .ready else .done) jump)) ∧
         (W3.putObj (w.heap.size+1) (.loop (rc (if jump.isNone then .ready else .done) jump))).heap[w.heap.size]?=some (.deferred (some [])):=fun jump W3 hk3=>by
       have hl3:=hk3.same _ _ (by omega) hl2 rfl
       have:=run_endRound (P:=P) jump hl3
       rw [hrc] at this ⊢
       exact ⟨this,by rw [hrc] at hl3;exact hl3,World.putObj_heap_same (Array.getElem?_eq_some_iff.1 hl3).1,(World.putObj_heap_other (by omega)).trans (hk3.same _ _ (Nat.le_refl _) hk2 rfl)⟩
     rintro e a3 W3 hp
     cases e with
     | normal =>
       obtain ⟨hk3,hkp3,hi3⟩:=hp
       obtain ⟨hr,hl3,hl4,hk4⟩:=fin none W3 hk3
       exact ⟨_,_,hr,.inl ⟨rfl,⟨hI.putObj _ hi3 (by omega) hl3 rfl,hl4,hk4⟩,hkpa.trans ((hw2.trans hkp3).trans (KeepC.put _ _ _ _ hl3 rfl))⟩⟩
     | ret =>
       obtain ⟨hk3,hi3⟩:=hp
       obtain ⟨hr,hl3,hl4,hk4⟩:=fin (some .ret) W3 hk3
       exact ⟨_,_,hr,.inr ⟨rfl,.ret,(hIx _).putObj _ hi3 (by omega) hl3 rfl,hl4,hk4⟩⟩
     | exit id =>
       obtain ⟨hk3,hi3⟩:=hp
       obtain ⟨hr,hl3,hl4,hk4⟩:=fin (some (.exit id)) W3 hk3
       exact ⟨_,_,hr,.inr ⟨rfl,.exit id,(hIx _).putObj _ hi3 (by omega) hl3 rfl,hl4,hk4⟩⟩
     | goto t=>exact hp.elim
     | panic ch=>exact hp.elim
     | outgrown=>exact hp.elim
   · rintro e W2 ⟨⟨v,rfl⟩,(⟨hi,hl,hk⟩|⟨i,c,hi,hl,hk⟩)⟩
     · exact ⟨none,_,by have:=run_endLoop (P:=P) hl (by rw [hrc];simp);rw [hrc] at this;exact this,hdone _ _ (Nat.le_refl _) (hI.putObj _ hi (by omega) hl rfl) ((World.putObj_heap_other (by omega)).trans hk)⟩
     · exact ⟨some c,_,by have:=run_endLoop (P:=P) hl (by rw [hrc];simp);rw [hrc] at this;exact this,hstop _ c i _ (Nat.le_refl _) ((hIx c).putObj _ hi (by omega) hl rfl) ((World.putObj_heap_other (by omega)).trans hk)⟩
def Blk(W:World)(b:Nat)(t:TypeId)(c:Array Value):Prop:=W.heap[b]?=some (Obj.cells c t (0,0))
theorem Blk.lt{W:World}{b:Nat}{t:TypeId}{c:Array Value}(h:Blk W b t c):b<W.heap.size:=(Array.getElem?_eq_some_iff.1 h).1
theorem Blk.cell{W:World}{b:Nat}{t:TypeId}{c:Array Value}(o:Nat)(h:Blk W b t c):W.cell? ⟨b,o,none⟩=c[o]?:=by
 unfold Blk at h;simp [World.cell?,h]
theorem Blk.free{W:World}{b:Nat}{t:TypeId}{c:Array Value}(o:Nat)(h:Blk W b t c):W.frozen? ⟨b,o,none⟩=false:=by
 unfold Blk at h;simp [World.frozen?,h]
theorem Blk.below{W W':World}{b n:Nat}{t:TypeId}{c:Array Value}(h:Blk W b t c)(hb:Below n W W')(hn:b<n):Blk W' b t c:=(hb.block b hn).trans h
theorem Blk.later{W W':World}{b:Nat}{t:TypeId}{c:Array Value}(h:Blk W b t c)(hb:Below W.heap.size W W'):Blk W' b t c:=h.below hb h.lt
theorem Blk.keep{W W':World}{L:List Nat}{b:Nat}{t:TypeId}{c:Array Value}(h:Blk W b t c)(hk:KeepC L W W')(hn:b ∉ L)(ht:itT t:=by first|exact .inl rfl|exact .inr (.inl rfl)|exact .inr (.inr (.inl rfl))|exact .inr (.inr (.inr rfl))):Blk W' b t c:=hk.same b c t hn ht h
theorem Blk.new(W:World)(t:TypeId)(c:Array Value):Blk (W.alloc (.cells c t)) W.heap.size t c:=heap_at rfl
theorem Blk.alloc{W:World}{b:Nat}{t:TypeId}{c:Array Value}(h:Blk W b t c)(o:Obj):Blk (W.alloc o) b t c:=(Below.heap_alloc _ _ _ h.lt).trans h
theorem Blk.set{W:World}{b:Nat}{t:TypeId}{c:Array Value}(o:Nat)(v:Value)(h:Blk W b t c):Blk (W.setCell ⟨b,o,none⟩ v) b t (c.setIfInBounds o v):=by
 unfold Blk at *;simp [World.setCell,Array.getElem?_modify,h]
theorem Blk.setOther{W:World}{b b':Nat}{t:TypeId}{c:Array Value}(o:Nat)(v:Value)(h:Blk W b t c)(hne:b≠b'):Blk (W.setCell ⟨b',o,none⟩ v) b t c:=(Below.heap_setCell _ _ _ _ hne).trans h
theorem Blk.drew{W:World}{b:Nat}{t:TypeId}{c:Array Value}(h:Blk W b t c):Blk W.drew b t c:=h
theorem facts1{W:World}{b:Nat}{t:TypeId}{c0:Value}(h:Blk W b t #[c0]):W.cell? ⟨b,0,none⟩=some c0∧W.frozen? ⟨b,0,none⟩=false:=⟨h.cell 0,h.free 0⟩
theorem own_below{β:Type}(B:Nat)(w0:World)(hB:w0.heap.size≤B):OwnFrom B (fun (_:β) W=>Below w0.heap.size w0 W):=fun _ X Y row hs hg hr =>
 ⟨hg.os.trans hs.os,hg.tape.trans hs.tape,hg.output.trans hs.output,Nat.le_trans hs.size hg.size,fun k hk=>(hg.block k (Nat.lt_of_lt_of_le hk hs.size) (fun e=>by have:=(hr k e.symm).1;omega)).trans (hs.block k hk)⟩
theorem own_blk{β:Type}(B b:Nat)(t:TypeId)(c:β→Array Value):OwnFrom B (fun s W=>Blk W b t (c s)):=fun s X Y row hs hg hr =>
 (hg.block b hs.lt (fun e=>by obtain ⟨_,o,ho,hc⟩:=hr b e.symm;rw [show X.heap[b]?=_ from hs] at ho;cases ho;cases hc)).trans hs
theorem own_ex{β γ:Type}{B:Nat}{I:γ→β→World→Prop}(h:∀ g,OwnFrom B (I g)):OwnFrom B (fun s W=>∃ g,I g s W):=fun s X Y row ⟨g,hs⟩ hg hr=>⟨g,h g s X Y row hs hg hr⟩
theorem own_pure{β:Type}(B:Nat)(q:β→Prop):OwnFrom B (fun s (_:World)=>q s):=fun _ _ _ _ h _ _=>h
theorem leave{fn:Func}{R:Ending→World→Prop}{a:Act}{W:World}{D:Nat}{v:Value}(hd:a.defers=[{ target:=.collected D,args:=#[] }])(hD:W.heap[D]?=some (.deferred (some [])))
   (hr:(results fn a.tmps).run Tryz.prog (W.putObj D (.deferred none))=.ok v (W.putObj D (.deferred none))) (hR:R (.returned v) (W.putObj D (.deferred none))):bodyPostM Fence.wide 6 Tryz.prog fn R .ret a W:=by
 obtain ⟨tmps,ds⟩:=a
 simp only at hd
 subst hd
 exact ⟨by simp,.inl ⟨_,_,rfl,run_takeDeferred hD,⟨v,hr,hR⟩⟩⟩
theorem leavesM{fn:Func}{R:Ending→World→Prop}{tmps:Array Value}{v:Value}:∀ (ds:List Nat) (W:World),ds.Nodup→(∀ D∈ds,W.heap[D]?=some (.deferred (some []))) →
   (∀ W',W'.heap.size=W.heap.size→W'.os=W.os→W'.tape=W.tape→W'.output=W.output→(∀ k,k ∉ ds→W'.heap[k]?=W.heap[k]?)→(results fn tmps).run Tryz.prog W'=.ok v W'∧R (.returned v) W') →
   LeavesInM Fence.wide 6 Tryz.prog fn tmps R (ds.map fun D=>{ target:=.collected D,args:=#[] }) .returning W:=by
 intro ds
 induction ds with
 | nil =>
   intro W _ _ h
   obtain ⟨h1,h2⟩:=h W rfl rfl rfl rfl (fun _ _=>rfl)
   exact ⟨v,h1,h2⟩
 | cons D ds ih =>
   intro W hn hD h
   refine ⟨by simp,.inl ⟨_,_,rfl,run_takeDeferred (hD D (by simp)),ih _ (List.nodup_cons.1 hn).2 (fun D' h'=>?_) (fun W' h1 h2 h3 h4 h5=>?_)⟩⟩
   · exact (World.putObj_heap_other (fun e=>(List.nodup_cons.1 hn).1 (by rw [← e];exact h'))).trans (hD D' (by simp [h']))
   · refine h W' (h1.trans (by simp [World.putObj])) h2 h3 h4 fun k hk=>?_
     simp only [List.mem_cons,not_or] at hk
     exact (h5 k hk.2).trans (World.putObj_heap_other hk.1)
theorem below_put{w W:World}{D:Nat}(hb:Below w.heap.size w W)(hn:w.heap.size≤D)(o:Obj):Below w.heap.size w (W.putObj D o) :=
 hb.trans ⟨rfl,rfl,rfl,by simp [World.putObj],fun k hk=>World.putObj_heap_other (by omega)⟩
end Go.Proofs.YtlckdfoflimahaaGreatDoor.Sk

/- Texts of one kind in one: PkBase, PkRange, PkRead, PkWalk, PkLoops, PkMath. -/
import Derived.Test.YtlckdfoflimahaaGreatDoorRows
import Derived.Test.YtlckdfoflimahaaGreatDoorQShelf04
import Derived.RangeFuncNested
import Derived.RangeFuncBound
import Derived.RangeFuncCalls
import Derived.RangeFuncLeaves
import Derived.RangeFuncFrom
import Derived.Shelf.Abstract
import Derived.Shelf.RegionOpen
import Derived.WalkKit
import Derived.WalkSpells
import Derived.WalkLawsBesides
import Derived.OwnWalkIn
import Derived.TacticsInMore
import Derived.LoopNIn
import Derived.LoopIn
import Derived.Lib.Hide
import Derived.Deep.RegionWith
import Derived.Deep.QuietTactic
import Derived.BigQuiet
import Derived.BigRegion
import Derived.WalkSmall
import Derived.Handy
import Derived.WalkMore
set_option maxRecDepth 200000
set_option maxHeartbeats 8000000
namespace Go.Proofs.YtlckdfoflimahaaGreatDoor.Pk
open Go.RowKit Go.Shelf
attribute [local go_sem] Oper.semAt_some
theorem heap_at{w:World}{o:Obj}{k:Nat}(h:k=w.heap.size):(w.alloc o).heap[k]?=some o:=by subst h;exact heap_alloc_new w o
def byte(p:ByteArray)(i:Nat):Nat:=(p.data.toList.getD i 0).toNat
theorem byte_lt(p:ByteArray)(i:Nat):byte p i<256:=UInt8.toNat_lt _
theorem byte_eq(p:ByteArray)(i:Nat)(h:i<p.size):p[i].toNat=byte p i:=by
 have h2:i<p.data.toList.length:=by rw [Array.length_toList];exact h
 unfold byte
 rw [List.getD_eq_getElem?_getD,List.getElem?_eq_getElem h2,Array.getElem_toList]
 rfl
theorem or_low(x:Int)(b:Nat)(hb:b<256):bits .or .i64 (wrap64 (x*256)) (wrap64 b)=wrap64 (x*256+b):=by
 have h1:∀ n:Int,IntKind.i64.wrap n=wrap64 n:=fun n=>by
   simp [IntKind.wrap,IntKind.bits,IntKind.signed,wrap64]
   split <;> omega
 have hw:∀ n:Int,BitVec.ofInt 64 (wrap64 n)=BitVec.ofInt 64 n:=fun n=>by
   apply BitVec.eq_of_toNat_eq
   simp only [BitVec.toNat_ofInt,wrap64]
   congr 1
   omega
 have hx:BitVec.ofInt 64 (x*256)=BitVec.ofInt 64 x <<< 8:=by
   apply BitVec.eq_of_toNat_eq
   simp only [BitVec.toNat_ofInt,BitVec.toNat_shiftLeft,Nat.shiftLeft_eq]
   omega
 have hz:BitVec.ofInt 64 (x*256) &&& BitVec.ofInt 64 (b:Int)=0#64:=by
   rw [hx]
   apply BitVec.eq_of_getLsbD_eq
   intro i hi
   rw [BitVec.getLsbD_and,BitVec.getLsbD_shiftLeft]
   by_cases h8:i<8
   · simp [h8]
   · have:(BitVec.ofInt 64 (b:Int)).getLsbD i=false:=by
       rw [BitVec.ofInt_natCast,BitVec.getLsbD_ofNat]
       rw [Nat.testBit_lt_two_pow (Nat.lt_of_lt_of_le hb (Nat.pow_le_pow_right (n:=2) (i:=8) (by decide) (show 8≤i by omega)))]
       simp
     rw [this,Bool.and_false,BitVec.getLsbD_zero]
 unfold bits
 rw [h1]
 show wrap64 ((BitVec.ofInt 64 (wrap64 (x*256)) ||| BitVec.ofInt 64 (wrap64 b)).toNat:Int)=_
 rw [hw,hw,← BitVec.add_eq_or_of_and_eq_zero _ _ hz]
 simp only [BitVec.toNat_add,BitVec.toNat_ofInt,wrap64]
 omega
theorem or_small(a b:Nat)(ha:a<256)(hb:b<256):bits .or .i64 ((a:Int)*256) b=(a*256+b:Nat):=by
 have:=or_low a b hb
 rw [show wrap64 ((a:Int)*256)=(a:Int)*256 by unfold wrap64;omega,show wrap64 (b:Int)=b by unfold wrap64;omega,show wrap64 ((a:Int)*256+b)=(a*256+b:Nat) by unfold wrap64;omega] at this
 exact this
def countS(p:ByteArray):Int:=if p.size<2 then -1 else if 200<byte p 0*256+byte p 1 then -1 else (byte p 0*256+byte p 1:Nat)
def scoreL(l:List UInt8):Int:=l.foldl (fun m b=>wrap64 (m*256+b.toNat)) 0
theorem scoreL_take(p:ByteArray)(k:Nat)(h:k<p.size):scoreL (p.data.toList.take (k+1))=wrap64 (scoreL (p.data.toList.take k)*256+byte p k):=by
 have h2:k<p.data.toList.length:=by rw [Array.length_toList];exact h
 rw [List.take_succ_eq_append_getElem h2]
 unfold scoreL
 rw [List.foldl_append]
 simp only [List.foldl_cons,List.foldl_nil]
 rw [← byte_eq p k h,Array.getElem_toList]
 rfl
theorem count_any(p:ByteArray)(hp:p.size≤281474976710656)(w:World) :
   Calls Tryz.prog 230 #[.string p] w fun e w'=>e=.returned (.int .i64 (countS p))∧Below w.heap.size w w':=by
 go_enter Tryz.func230,Tryz.ntmps230
 by_cases h2:p.size<2
 · go_wp2
   go_ret
   exact ⟨by simp [countS,h2],Below.refl _ _⟩
 · have h0:0<p.size:=by omega
   have h1:1<p.size:=by omega
   have e0:=byte_eq p 0 h0
   have e1:=byte_eq p 1 h1
   have l0:=byte_lt p 0
   have l1:=byte_lt p 1
   have hor:=or_small (byte p 0) (byte p 1) l0 l1
   have HC:countS p=if 200<byte p 0*256+byte p 1 then (-1:Int) else ((byte p 0*256+byte p 1:Nat):Int):=by unfold countS;rw [if_neg h2]
   have HD:=Lib.hid HC
   clear HC
   generalize byte p 0 * 256+byte p 1=n at *
   go_wp2
   go_region
   all_goals go_wp2
   · have hn:200<n:=by omega
     go_ret
     rw [HD.out,if_pos hn]
     exact ⟨rfl,(Below.refl _ _).drew⟩
   · have hn:¬ 200<n:=by omega
     go_ret
     rw [HD.out,if_neg hn]
     exact ⟨rfl,(Below.refl _ _).drew⟩
theorem score_any(p:ByteArray)(hp:p.size≤281474976710656)(w:World) :
   Calls Tryz.prog 255 #[.string p] w fun e w'=>e=.returned (.int .i64 (scoreL p.data.toList))∧w'=w:=by
 go_enter Tryz.func255,Tryz.ntmps255
 go_wp2
 go_loopw [3,7] (fun n i wr=>∃ (k:Nat),i=.int .i64 k∧k≤p.size∧n=.int .i64 (scoreL (p.data.toList.take k))∧wr=w)
   (fun _ i _=>p.size-(intOf i).toNat)
 case atStart=>exact ⟨0,rfl,by omega,rfl,rfl⟩
 case round =>
   obtain ⟨k,rfl,hk,rfl,rfl⟩:=hrel
   by_cases hlt:k<p.size
   · have HS:=Lib.hid (scoreL_take p k hlt)
     generalize scoreL (p.data.toList.take k)=m at *
     have he:=byte_eq p k hlt
     go_wp2
     refine ⟨⟨k+1,by go_num,hlt,?_,trivial⟩,by simp [intOf];omega⟩
     rw [HS.out,or_low _ _ (byte_lt p k)]
   · obtain rfl:k=p.size:=by omega
     go_wp2
     go_ret
     rw [List.take_of_length_le (by rw [Array.length_toList];exact Nat.le_refl _)]
     exact ⟨rfl,rfl⟩
structure Cut where
 m:ByteArray
 s:Int
 fr:Nat
 to:Nat
def Cut.val(c:Cut):Value:=.agg #[.string c.m,.int .i64 c.s,.int .i64 c.fr,.int .i64 c.to]
def noCut:Value:=.agg #[.string ⟨#[]⟩,.int .i64 0,.int .i64 0,.int .i64 0]
def cutV:Option Cut→Value
 | none=>noCut
 | some c=>c.val
theorem ext_list(p:ByteArray)(a k:Nat):(p.extract a (a+k)).data.toList=(p.data.toList.drop a).take k:=by
 rw [ByteArray.data_extract,Array.toList_extract]
 simp
def begunS(p:ByteArray)(k:Nat):Option Cut :=
 if k<2∨p.size≤k then none else if 64<byte p k∨p.size<k+byte p k+10 then none else
   some ⟨p.extract (k+1) (k+1+byte p k),scoreL ((p.data.toList.drop (k+1+byte p k)).take 8),k,k+byte p k+10⟩
def begunI(p:ByteArray)(k:Int):Option Cut:=if k<0 then none else begunS p k.toNat
def endedS(p:ByteArray)(to:Nat):Option Cut:=begunI p ((to:Int)-1-byte p (to-1))
theorem begun_any(p:ByteArray)(hp:p.size≤281474976710656)(k:Int)(hk:-1000≤k)(hk2:k≤9000000000000000)(w:World) :
   Calls Tryz.prog 234 #[.string p,.int .i64 k] w fun e w'=>e=.returned (cutV (begunI p k))∧Below w.heap.size w w':=by
 by_cases hk0:k<2
 · have HB:begunI p k=none:=by unfold begunI begunS;split;rfl;rw [if_pos (by omega)]
   rw [HB]
   go_enter Tryz.func234,Tryz.ntmps234
   go_wp2
   go_returns
   exact ⟨rfl,(Below.refl _ _).alloc (Nat.le_refl _) _⟩
 · obtain ⟨i,rfl⟩:∃ i:Nat,k=(i:Int):=⟨k.toNat,by omega⟩
   rw [show begunI p (i:Int)=begunS p i by unfold begunI;rw [if_neg (by omega)];rfl]
   by_cases hi:i<p.size
   · have hb:=byte_eq p i hi
     have hl:=byte_lt p i
     have HB:begunS p i=if 64<byte p i∨p.size<i+byte p i+10 then none else some ⟨p.extract (i+1) (i+1+byte p i),scoreL ((p.data.toList.drop (i+1+byte p i)).take 8),i,i+byte p i+10⟩:=by
       unfold begunS;rw [if_neg (by omega)]
     rw [HB]
     clear HB
     generalize byte p i=n at *
     by_cases hc:64<n∨p.size<i+n+10
     · rw [if_pos hc]
       go_enter Tryz.func234,Tryz.ntmps234
       go_wp2
       all_goals go_returns
       all_goals exact ⟨rfl,(Below.refl _ _).alloc (Nat.le_refl _) _⟩
     · rw [if_neg hc]
       have hq1:i+1+n≤p.size:=by omega
       have hq2:i+1+n+8≤p.size:=by omega
       have hq:(p.extract (i+1+n) (i+1+n+8)).size≤281474976710656:=by simp;omega
       have hsc:=score_any _ hq
       rw [ext_list] at hsc
       have HS:=fun w=>Lib.hid (hsc w)
       clear hsc
       have g1:IntKind.i64.wrap ((i:Int)+1)=(i:Int)+1:=IntWalk.i64_in _ (by omega)
       have g2:IntKind.i64.wrap ((i:Int)+1+n+8)=(i:Int)+1+n+8:=IntWalk.i64_in _ (by omega)
       have r1:=fun W:World=>run_slice_string (P:=Tryz.prog) W 9 p .i64 .i64 ((i:Int)+1) ((i:Int)+1+n) Tryz.underlying9 (by omega) (by omega) (by omega)
       have r2:=fun W:World=>run_slice_string (P:=Tryz.prog) W 9 p .i64 .i64 ((i:Int)+1+n) ((i:Int)+1+n+8) Tryz.underlying9 (by omega) (by omega) (by omega)
       rw [show ((i:Int)+1).toNat=i+1 by omega,show ((i:Int)+1+n).toNat=i+1+n by omega] at r1
       rw [show ((i:Int)+1+n+8).toNat=i+1+n+8 by omega,show ((i:Int)+1+n).toNat=i+1+n by omega] at r2
       go_enter Tryz.func234,Tryz.ntmps234
       go_wp2
       go_region_with ((go_at_call 255);(refine (HS _).out.mono ?_);(rintro e w' ⟨rfl,rfl⟩))
       all_goals go_wp2
       all_goals go_returns
       all_goals refine ⟨?_,((Below.refl _ _).alloc (Nat.le_refl _) _).drew⟩
       all_goals show _=Ending.returned (Value.agg #[Value.string (p.extract (i+1) (i+1+n)),Value.int .i64 (scoreL ((p.data.toList.drop (i+1+n)).take 8)),Value.int .i64 (i:Int),Value.int .i64 ((i+n+10:Nat):Int)])
       all_goals rw [show ((i+n+10:Nat):Int)=(i:Int)+1+n+8+1 by omega]
   · have HB:begunS p i=none:=by unfold begunS;rw [if_pos (by omega)]
     rw [HB]
     go_enter Tryz.func234,Tryz.ntmps234
     go_wp2
     go_returns
     exact ⟨rfl,(Below.refl _ _).alloc (Nat.le_refl _) _⟩
end Go.Proofs.YtlckdfoflimahaaGreatDoor.Pk
namespace Go.Proofs.YtlckdfoflimahaaGreatDoor.Pk
open Go.RowKit Go.Shelf
def itT(t:TypeId):Prop:=t=9∨t=343∨t=347
structure KeepC (L:List Nat) (A B:World):Prop where
 size:A.heap.size≤B.heap.size
 same:∀ (k:Nat) (c:Array Value) (t:TypeId),k ∉ L→itT t→A.heap[k]?=some (.cells c t (0,0))→B.heap[k]?=some (.cells c t (0,0))
theorem KeepC.refl(L:List Nat)(A:World):KeepC L A A:=⟨Nat.le_refl _,fun _ _ _ _ _ h=>h⟩
theorem KeepC.trans{L:List Nat}{A B C:World}(h:KeepC L A B)(g:KeepC L B C):KeepC L A C:=⟨Nat.le_trans h.size g.size,fun k c t hk hc ho=>g.same k c t hk hc (h.same k c t hk hc ho)⟩
theorem KeepC.of_below{L:List Nat}{A B:World}(h:Below A.heap.size A B):KeepC L A B:=⟨h.size,fun k _ _ _ _ ho=>(h.block k (Array.getElem?_eq_some_iff.1 ho).1).trans ho⟩
theorem KeepC.put{L:List Nat}(W:World)(l:Nat)(o o':Obj)(hl:W.heap[l]?=some o)(hc:o.isCells=false):KeepC L W (W.putObj l o') :=
 ⟨by simp [World.putObj],fun k c t _ _ hk=>by
   by_cases e:k=l
   · subst e;rw [hl] at hk;cases hk;cases hc
   · exact (World.putObj_heap_other e).trans hk⟩
theorem KeepC.set{L:List Nat}(W:World)(b o:Nat)(v:Value)(hb:b∈L):KeepC L W (W.setCell ⟨b,o,none⟩ v) :=
 ⟨by simp [World.setCell],fun k c t hk _ hx=>(Below.heap_setCell _ _ _ k (fun e=>hk (by rw [e];exact hb))).trans hx⟩
theorem KeepC.of_grownBy{L:List Nat}{A B:World}{row:Option Nat}(h:A.grownBy B row)(hr:∀ k c t,row=some k→A.heap[k]?=some (.cells c t (0,0))→¬ itT t):KeepC L A B :=
 ⟨h.size,fun k c t _ ht hk=>by
   by_cases e:some k=row
   · exact absurd ht (hr k c t e.symm hk)
   · exact (h.block k (Array.getElem?_eq_some_iff.1 hk).1 e).trans hk⟩
def Abides(J:Nat→World→Prop):Prop:=∀ i A B,J i A→Below A.heap.size A B→J i B
def RoundX(L:List Nat)(J Jx:Nat→World→Prop)(i:Nat)(W:World)(e:Ending)(W':World):Prop :=
 (e=.returned (.bool true)∧J (i+1) W'∧KeepC L W W')∨(e=.returned (.bool false)∧Jx (i+1) W')
def SeqX{α:Type}(P:Program)(g:Nat)(lb:Array Value)(encs:Nat→α→Array Value)(xs:List α)(L:List Nat)(w:World):Prop :=
 ∀ (l:Nat) (J Jx:Nat→World→Prop) (W:World),Below w.heap.size w W→Abides J→Abides Jx →
   (∀ i x W1,xs[i]?=some x→J i W1→YieldAt Fence.wide 4 P l (encs i x) W1 (RoundX L J Jx i W1))→J 0 W →
   CallsIn Fence.wide 5 P g (#[.func (.yield l) #[] #[]]++lb) W fun e W'=>(∃ v,e=.returned v)∧(J xs.length W'∨∃ i,Jx i W')
def bodyX(B:Nat)(L:List Nat)(I:Nat→World→Prop)(Ix:Code→Nat→World→Prop)(i:Nat)(W:World):Exit→Act→World→Prop
 | .normal,_,W'=>KeepsFrom B W W'∧KeepC L W W'∧I (i+1) W'
 | .ret,_,W'=>KeepsFrom B W W'∧Ix .ret (i+1) W'
 | .exit id,_,W'=>KeepsFrom B W W'∧Ix (.exit id) (i+1) W'
 | _,_,_=>False
theorem below_grown{A B:World}(h:Below A.heap.size A B):A.grownBy B none:=⟨h.os,h.tape,h.output,h.size,fun q hq _=>h.block q hq⟩
theorem range_x{α:Type}{P:Program}{g:Operand}{ps:Array Tmp}{assign body:Code}{Q:Exit→Act→World→Prop}{a:Act}{w:World}
   {gf:Nat} {lb:Array Value} (hg:a.eval g=.func (.func gf) #[] lb) (eg:∀ args w,(callFunc gf args).run P w=.ok (.enter gf args) w)
   {encs:Nat→α→Array Value} {xs:List α} {L:List Nat} (hseq:SeqX P gf lb encs xs L w) (hps:∀ i x,(encs i x).size=ps.size)
   (I:Nat→World→Prop) (Ix:Code→Nat→World→Prop) (hI:OwnFrom w.heap.size I) (hIx:∀ c,OwnFrom w.heap.size (Ix c)) (h0:I 0 w)
   (Ax:Nat→α→Act→World→Prop) (hAx:∀ i x a',OwnFrom w.heap.size (fun (_:Unit) W=>Ax i x a' W))
   (hassign:∀ (l i:Nat) (x:α) (W:World) (K:Act→World→Prop),xs[i]?=some x→I i W→(∀ a' W',KeepsFrom w.heap.size W W'→KeepC L W W'→I i W'→Ax i x a' W'→K a' W') →
     assign.wpIn (Fence.wide.inRound l) 4 P (Exit.then K (fun _ _ _=>False)) { tmps:=(ps.zip (encs i x)).foldl (fun t (p,v)=>t.setIfInBounds p v) a.tmps,defers:=[] } W)
   (hbody:∀ (l i:Nat) (x:α) (a':Act) (W:World),xs[i]?=some x→I i W→Ax i x a' W→body.wpIn (Fence.wide.inRound l) 4 P (bodyX w.heap.size L I Ix i W) a' W)
   (hdone:∀ (D:Nat) (W:World),w.heap.size≤D→I xs.length W→W.heap[D]?=some (.deferred (some []))→Q .normal { a with defers:={ target:=.collected D,args:=#[] } :: a.defers } W)
   (hstop:∀ (D:Nat) (c:Code) (i:Nat) (W:World),w.heap.size≤D→Ix c i W→W.heap[D]?=some (.deferred (some []))→c.wpIn Fence.wide 6 P Q { a with defers:={ target:=.collected D,args:=#[] } :: a.defers } W) :
   (Code.rangeFunc g ps assign body).wpIn Fence.wide 6 P Q a w:=by
 refine wpIn_rangeFunc ?_
 intro fn hfn
 obtain ⟨rc,hrc⟩:∃ rc:LoopState→Option Code→Loop,rc=fun st pe=>{ state:=st,pending:=pe,fn,tmps:=a.tmps,params:=ps,assign,body,defers:=w.heap.size }:=⟨_,rfl⟩
 obtain ⟨W1,hW1⟩:∃ W1,(w.alloc (.deferred (some []))).alloc (.loop (rc .ready none))=W1:=⟨_,rfl⟩
 have hL1:W1.heap[w.heap.size+1]?=some (.loop (rc .ready none)):=by rw [← hW1];exact heap_at (by simp)
 have hK1:W1.heap[w.heap.size]?=some (.deferred (some [])):=by rw [← hW1];exact (Below.heap_alloc _ _ _ (by simp)).trans (heap_at rfl)
 have hI1:I 0 W1:=by rw [← hW1];exact hI.alloc _ (hI.alloc _ h0)
 have hb1:Below w.heap.size w W1:=by rw [← hW1];exact ((Below.refl _ w).alloc (Nat.le_refl _) _).alloc (by simp) _
 have hIb:Abides I:=fun i A B hA hB=>hI i A B none hA (below_grown hB) (fun r e=>by cases e)
 have hIxb:∀ c,Abides (Ix c):=fun c i A B hA hB=>hIx c i A B none hA (below_grown hB) (fun r e=>by cases e)
 refine ⟨w.heap.size+1,[{ target:=.collected w.heap.size,args:=#[] }],W1,{ target:=.fn (.func gf) lb,args:=#[.func (.yield (w.heap.size+1)) #[] #[]] },W1,gf,
   #[.func (.yield (w.heap.size+1)) #[] #[]]++lb,W1,?_,?_,?_,?_,fun _=>by decide,?_⟩
 · rw [← hW1,hrc];exact run_enterLoop_outer _ _ _ _ _
 · simp only [resolve,hg]
   simp [go_sem]
 · intro f' _;trivial
 · simp [invoke,go_sem,eg]
 · have keep:∀ {A B:World} {k:Nat} {o:Obj},Below A.heap.size A B→A.heap[k]?=some o→B.heap[k]?=some o:=fun hb hk=>(hb.block _ (Array.getElem?_eq_some_iff.1 hk).1).trans hk
   refine (hseq (w.heap.size+1)
     (fun i W=>I i W∧W.heap[w.heap.size+1]?=some (.loop (rc .ready none))∧W.heap[w.heap.size]?=some (.deferred (some [])))
     (fun i W=>∃ c,Ix c i W∧W.heap[w.heap.size+1]?=some (.loop (rc .done (some c)))∧W.heap[w.heap.size]?=some (.deferred (some [])))
     W1 hb1
     (fun i A B hs hb=>⟨hIb i A B hs.1 hb,keep hb hs.2.1,keep hb hs.2.2⟩)
     (fun i A B hs hb=>by obtain ⟨c,h1,h2,h3⟩:=hs;exact ⟨c,hIxb c i A B h1 hb,keep hb h2,keep hb h3⟩)
     ?_ ⟨hI1,hL1,hK1⟩).mono ?_
   · rintro i x W hx ⟨hi,hl,hk⟩
     have hy:=run_yield (P:=P) (args:=encs i x) hl (by rw [hrc];exact hps i x)
     rw [hrc] at hy
     refine ⟨fn,_,assign,body,hy,roundIn_of_wpIn hfn (hassign _ i x W _ hx hi ?_)⟩
     clear hy
     intro a' Wa hkfa hkpa hia hax
     have hla:=hkfa.same _ _ (by omega) hl rfl
     have hka:=hkfa.same _ _ (Nat.le_refl _) hk rfl
     have hlt:w.heap.size+1<Wa.heap.size:=(Array.getElem?_eq_some_iff.1 hla).1
     refine ⟨_,run_beginRound hla (by rw [hrc]),?_⟩
     have hl2:(Wa.putObj (w.heap.size+1) (.loop { rc .ready none with state:=.busy })).heap[w.heap.size+1]?=some (.loop { rc .ready none with state:=.busy }):=World.putObj_heap_same hlt
     have hk2:(Wa.putObj (w.heap.size+1) (.loop { rc .ready none with state:=.busy })).heap[w.heap.size]?=some (.deferred (some [])):=(World.putObj_heap_other (by omega)).trans hka
     have hw2:KeepC L Wa (Wa.putObj (w.heap.size+1) (.loop { rc .ready none with state:=.busy })):=KeepC.put _ _ _ _ hla rfl
     refine wpIn_mono (hbody _ i x a' _ hx (hI.putObj _ hia (by omega) hla rfl) ((hAx i x a').putObj (s:=()) _ hax (by omega) hla rfl)) ?_
     have fin:∀ (jump:Option Code) (W3:World),KeepsFrom w.heap.size (Wa.putObj (w.heap.size+1) (.loop { rc .ready none with state:=.busy })) W3 →
         (Instr.endRound (w.heap.size+1) jump).run P W3=.ok (.bool jump.isNone) (W3.putObj (w.heap.size+1) (.loop (rc (if jump.isNone then .ready else .done) jump))) ∧
         W3.heap[w.heap.size+1]?=some (.loop { rc .ready none with state:=.busy }) ∧
         (W3.putObj (w.heap.size+1) (.loop (rc (if jump.isNone then .ready else .done) jump))).heap[w.heap.size+1]?=some (.loop (rc (if jump.isNone then .ready else .done) jump)) ∧
         (W3.putObj (w.heap.size+1) (.loop (rc (if jump.isNone then .ready else .done) jump))).heap[w.heap.size]?=some (.deferred (some [])):=fun jump W3 hk3=>by
       have hl3:=hk3.same _ _ (by omega) hl2 rfl
       have:=run_endRound (P:=P) jump hl3
       rw [hrc] at this ⊢
       exact ⟨this,by rw [hrc] at hl3;exact hl3,World.putObj_heap_same (Array.getElem?_eq_some_iff.1 hl3).1,(World.putObj_heap_other (by omega)).trans (hk3.same _ _ (Nat.le_refl _) hk2 rfl)⟩
     rintro e a3 W3 hp
     cases e with
     | normal =>
       obtain ⟨hk3,hkp3,hi3⟩:=hp
       obtain ⟨hr,hl3,hl4,hk4⟩:=fin none W3 hk3
       exact ⟨_,_,hr,.inl ⟨rfl,⟨hI.putObj _ hi3 (by omega) hl3 rfl,hl4,hk4⟩,hkpa.trans ((hw2.trans hkp3).trans (KeepC.put _ _ _ _ hl3 rfl))⟩⟩
     | ret =>
       obtain ⟨hk3,hi3⟩:=hp
       obtain ⟨hr,hl3,hl4,hk4⟩:=fin (some .ret) W3 hk3
       exact ⟨_,_,hr,.inr ⟨rfl,.ret,(hIx _).putObj _ hi3 (by omega) hl3 rfl,hl4,hk4⟩⟩
     | exit id =>
       obtain ⟨hk3,hi3⟩:=hp
       obtain ⟨hr,hl3,hl4,hk4⟩:=fin (some (.exit id)) W3 hk3
       exact ⟨_,_,hr,.inr ⟨rfl,.exit id,(hIx _).putObj _ hi3 (by omega) hl3 rfl,hl4,hk4⟩⟩
     | goto t=>exact hp.elim
     | panic ch=>exact hp.elim
     | outgrown=>exact hp.elim
   · rintro e W2 ⟨⟨v,rfl⟩,(⟨hi,hl,hk⟩|⟨i,c,hi,hl,hk⟩)⟩
     · exact ⟨none,_,by have:=run_endLoop (P:=P) hl (by rw [hrc];simp);rw [hrc] at this;exact this,hdone _ _ (Nat.le_refl _) (hI.putObj _ hi (by omega) hl rfl) ((World.putObj_heap_other (by omega)).trans hk)⟩
     · exact ⟨some c,_,by have:=run_endLoop (P:=P) hl (by rw [hrc];simp);rw [hrc] at this;exact this,hstop _ c i _ (Nat.le_refl _) ((hIx c).putObj _ hi (by omega) hl rfl) ((World.putObj_heap_other (by omega)).trans hk)⟩
end Go.Proofs.YtlckdfoflimahaaGreatDoor.Pk
namespace Go.Proofs.YtlckdfoflimahaaGreatDoor.Pk
open Go.RowKit Go.Shelf
attribute [local go_sem] Oper.semAt_some
def Blk(W:World)(b:Nat)(t:TypeId)(c:Array Value):Prop:=W.heap[b]?=some (Obj.cells c t (0,0))
theorem Blk.lt{W:World}{b:Nat}{t:TypeId}{c:Array Value}(h:Blk W b t c):b<W.heap.size:=(Array.getElem?_eq_some_iff.1 h).1
theorem Blk.cell{W:World}{b:Nat}{t:TypeId}{c:Array Value}(o:Nat)(h:Blk W b t c):W.cell? ⟨b,o,none⟩=c[o]?:=by
 unfold Blk at h;simp [World.cell?,h]
theorem Blk.free{W:World}{b:Nat}{t:TypeId}{c:Array Value}(o:Nat)(h:Blk W b t c):W.frozen? ⟨b,o,none⟩=false:=by
 unfold Blk at h;simp [World.frozen?,h]
theorem Blk.below{W W':World}{b n:Nat}{t:TypeId}{c:Array Value}(h:Blk W b t c)(hb:Below n W W')(hn:b<n):Blk W' b t c:=(hb.block b hn).trans h
theorem Blk.later{W W':World}{b:Nat}{t:TypeId}{c:Array Value}(h:Blk W b t c)(hb:Below W.heap.size W W'):Blk W' b t c:=h.below hb h.lt
theorem Blk.keep{W W':World}{L:List Nat}{b:Nat}{t:TypeId}{c:Array Value}(h:Blk W b t c)(hk:KeepC L W W')(hn:b ∉ L)(ht:itT t:=by first|exact .inl rfl|exact .inr (.inl rfl)|exact .inr (.inr rfl)):Blk W' b t c:=hk.same b c t hn ht h
theorem Blk.new(W:World)(t:TypeId)(c:Array Value):Blk (W.alloc (.cells c t)) W.heap.size t c:=heap_at rfl
theorem Blk.alloc{W:World}{b:Nat}{t:TypeId}{c:Array Value}(h:Blk W b t c)(o:Obj):Blk (W.alloc o) b t c:=(Below.heap_alloc _ _ _ h.lt).trans h
theorem Blk.set{W:World}{b:Nat}{t:TypeId}{c:Array Value}(o:Nat)(v:Value)(h:Blk W b t c):Blk (W.setCell ⟨b,o,none⟩ v) b t (c.setIfInBounds o v):=by
 unfold Blk at *;simp [World.setCell,Array.getElem?_modify,h]
theorem Blk.setOther{W:World}{b b':Nat}{t:TypeId}{c:Array Value}(o:Nat)(v:Value)(h:Blk W b t c)(hne:b≠b'):Blk (W.setCell ⟨b',o,none⟩ v) b t c:=(Below.heap_setCell _ _ _ _ hne).trans h
theorem Blk.drew{W:World}{b:Nat}{t:TypeId}{c:Array Value}(h:Blk W b t c):Blk W.drew b t c:=h
theorem facts1{W:World}{b:Nat}{t:TypeId}{c0:Value}(h:Blk W b t #[c0]):W.cell? ⟨b,0,none⟩=some c0∧W.frozen? ⟨b,0,none⟩=false:=⟨h.cell 0,h.free 0⟩
theorem facts2{W:World}{b:Nat}{t:TypeId}{c0 c1:Value}(h:Blk W b t #[c0,c1]):W.cell? ⟨b,0,none⟩=some c0∧W.cell? ⟨b,1,none⟩=some c1∧W.frozen? ⟨b,0,none⟩=false∧W.frozen? ⟨b,1,none⟩=false :=
 ⟨h.cell 0,h.cell 1,h.free 0,h.free 1⟩
theorem facts4{W:World}{b:Nat}{t:TypeId}{c0 c1 c2 c3:Value}(h:Blk W b t #[c0,c1,c2,c3]):W.cell? ⟨b,0,none⟩=some c0∧W.cell? ⟨b,1,none⟩=some c1∧W.cell? ⟨b,2,none⟩=some c2∧W.cell? ⟨b,3,none⟩=some c3 ∧
   W.frozen? ⟨b,0,none⟩=false∧W.frozen? ⟨b,1,none⟩=false∧W.frozen? ⟨b,2,none⟩=false∧W.frozen? ⟨b,3,none⟩=false :=
 ⟨h.cell 0,h.cell 1,h.cell 2,h.cell 3,h.free 0,h.free 1,h.free 2,h.free 3⟩
theorem set2{W:World}{b:Nat}{t:TypeId}{c0 c1:Value}(v0 v1:Value)(h:Blk W b t #[c0,c1]) :
   Blk ((W.setCell ⟨b,0,none⟩ v0).setCell ⟨b,1,none⟩ v1) b t #[v0,v1] ∧
   (∀ k,k≠b→((W.setCell ⟨b,0,none⟩ v0).setCell ⟨b,1,none⟩ v1).heap[k]?=W.heap[k]?) ∧
   (∀ n,n≤b→Below n W ((W.setCell ⟨b,0,none⟩ v0).setCell ⟨b,1,none⟩ v1)) :=
 ⟨(h.set 0 v0).set 1 v1,fun k hk=>by rw [Below.heap_setCell _ _ _ _ hk,Below.heap_setCell _ _ _ _ hk],fun n hn=>((Below.refl n W).setCell (p:=⟨b,0,none⟩) hn v0).setCell (p:=⟨b,1,none⟩) hn v1⟩
theorem set4{W:World}{b:Nat}{t:TypeId}{c0 c1 c2 c3:Value}(v0 v1 v2 v3:Value)(h:Blk W b t #[c0,c1,c2,c3]) :
   Blk ((((W.setCell ⟨b,0,none⟩ v0).setCell ⟨b,1,none⟩ v1).setCell ⟨b,2,none⟩ v2).setCell ⟨b,3,none⟩ v3) b t #[v0,v1,v2,v3] ∧
   (∀ k,k≠b→((((W.setCell ⟨b,0,none⟩ v0).setCell ⟨b,1,none⟩ v1).setCell ⟨b,2,none⟩ v2).setCell ⟨b,3,none⟩ v3).heap[k]?=W.heap[k]?) ∧
   (∀ n,n≤b→Below n W ((((W.setCell ⟨b,0,none⟩ v0).setCell ⟨b,1,none⟩ v1).setCell ⟨b,2,none⟩ v2).setCell ⟨b,3,none⟩ v3)) :=
 ⟨(((h.set 0 v0).set 1 v1).set 2 v2).set 3 v3,fun k hk=>by rw [Below.heap_setCell _ _ _ _ hk,Below.heap_setCell _ _ _ _ hk,Below.heap_setCell _ _ _ _ hk,Below.heap_setCell _ _ _ _ hk],
   fun n hn=>((((Below.refl n W).setCell (p:=⟨b,0,none⟩) hn v0).setCell (p:=⟨b,1,none⟩) hn v1).setCell (p:=⟨b,2,none⟩) hn v2).setCell (p:=⟨b,3,none⟩) hn v3⟩
theorem ret4{fn:Func}{R:Ending→World→Prop}{a:Act}{W:World}{b k:Nat}{v0 v3 v1 v2:Value}(hr:fn.results=#[.cell k 343])(hk:a.tmps.getD k undef=.pointer (some ⟨b,0,none⟩))(hB:Blk W b 343 #[v0,v1,v2,v3])(hd:a.defers=[])
   (hR:R (.returned (.agg #[v0,v1,v2,v3])) W):bodyPost Tryz.prog fn R .ret a W:=by
 obtain ⟨e0,e1,e2,e3,f0,f1,f2,f3⟩:=facts4 hB
 refine bodyPost_ret ?_ hd hR
 have hk2:a.tmps[k]?.getD undef=.pointer (some ⟨b,0,none⟩):=by rw [← Array.getD_eq_getD_getElem?];exact hk
 simp [results,hr,hk2,go_sem,e0,e1,e2,e3]
theorem ret2{fn:Func}{R:Ending→World→Prop}{a:Act}{W:World}{b k:Nat}{v0 v1:Value}(hr:fn.results=#[.cell k 117])(hk:a.tmps.getD k undef=.pointer (some ⟨b,0,none⟩))(hB:Blk W b 117 #[v0,v1])(hd:a.defers=[])
   (hR:R (.returned (.agg #[v0,v1])) W):bodyPost Tryz.prog fn R .ret a W:=by
 obtain ⟨e0,e1,f0,f1⟩:=facts2 hB
 refine bodyPost_ret ?_ hd hR
 have hk2:a.tmps[k]?.getD undef=.pointer (some ⟨b,0,none⟩):=by rw [← Array.getD_eq_getD_getElem?];exact hk
 simp [results,hr,hk2,go_sem,e0,e1]
theorem cutV_shape(o:Option Cut):∃ m s f t,cutV o=.agg #[.string m,.int .i64 s,.int .i64 f,.int .i64 t]:=by
 cases o with
 | none=>exact ⟨_,_,_,_,rfl⟩
 | some c=>exact ⟨_,_,_,_,rfl⟩
theorem ended_any(p:ByteArray)(hp:p.size≤281474976710656)(to:Nat)(h0:0<to)(ht:to≤p.size)(w:World) :
   Calls Tryz.prog 231 #[.string p,.int .i64 to] w fun e w'=>e=.returned (cutV (endedS p to))∧Below w.heap.size w w':=by
 obtain ⟨i,rfl⟩:∃ i,to=i+1:=⟨to-1,by omega⟩
 have hi:i<p.size:=by omega
 have hb:=byte_eq p i hi
 have hl:=byte_lt p i
 unfold endedS
 simp only [Nat.add_sub_cancel]
 generalize byte p i=n at *
 have HB:=fun w=>Lib.hid (begun_any p hp ((i:Int)-n) (by omega) (by omega) w)
 have hto:(((i+1:Nat):Int)-1-n)=(i:Int)-n:=by omega
 rw [hto]
 clear hto
 obtain ⟨m,s,f,t,hc⟩:=cutV_shape (begunI p ((i:Int)-n))
 rw [hc] at HB ⊢
 clear hc
 go_enter Tryz.func231,Tryz.ntmps231
 go_wp2_with fail
 refine (HB _).out.mono ?_
 rintro e w1 ⟨rfl,hb1⟩
 have hB:=(Blk.new w 343 #[Value.string { data:=#[] },Value.int IntKind.i64 0,Value.int IntKind.i64 0,Value.int IntKind.i64 0]).later hb1
 obtain ⟨e0,e1,e2,e3,f0,f1,f2,f3⟩:=facts4 hB
 have HH:=Lib.hid hB
 have HL:=Lib.hid hb1
 clear hB hb1
 go_wp2
 obtain ⟨g1,g2,g3⟩:=set4 (.string m) (.int .i64 s) (.int .i64 f) (.int .i64 t) HH.out
 exact ret4 Tryz.results231 rfl g1 rfl ⟨rfl,(((Below.refl _ _).alloc (Nat.le_refl _) _).trans (HL.out.mono (by simp))).trans (g3 _ (Nat.le_refl _))⟩
theorem entry_any(c:Cut)(hs:c.m.size≤1000)(w:World) :
   Calls Tryz.prog 232 #[c.val] w fun e w'=>e=.returned (.agg #[.string c.m,.int .i64 c.s])∧Below w.heap.size w w':=by
 have HC:=fun w=>Lib.hid (Tryz.stringslite_Clone c.m w (by omega))
 have HD:∀ w,Hid (Calls Tryz.prog 118 #[.string c.m] w fun e w'=>e=.returned (.string c.m)∧Below w.heap.size w w'):=fun w=>Lib.hid (by
   go_enter Tryz.func118,Tryz.ntmps118
   go_wp2_with fail
   refine (HC _).out.mono ?_
   rintro e w1 ⟨rfl,hb1⟩
   go_wp2
   go_returns
   exact ⟨rfl,hb1⟩)
 clear HC
 unfold Cut.val
 go_enter Tryz.func232,Tryz.ntmps232
 go_wp2_with fail
 refine (HD _).out.mono ?_
 rintro e w1 ⟨rfl,hb1⟩
 have hA:=((Blk.new w 343 #[Value.string c.m,Value.int IntKind.i64 c.s,Value.int IntKind.i64 c.fr,Value.int IntKind.i64 c.to]).alloc (Obj.cells #[Value.string { data:=#[] },Value.int IntKind.i64 0] 117)).later hb1
 have hB:=(Blk.new (w.alloc (Obj.cells #[Value.string c.m,Value.int IntKind.i64 c.s,Value.int IntKind.i64 c.fr,Value.int IntKind.i64 c.to] 343)) 117 #[Value.string { data:=#[] },Value.int IntKind.i64 0]).later hb1
 rw [World.size_alloc] at hB
 obtain ⟨a0,a1,a2,a3,b0,b1,b2,b3⟩:=facts4 hA
 obtain ⟨e0,e1,f0,f1⟩:=facts2 hB
 have HH:=Lib.hid hB
 have HA:=Lib.hid hA
 have HL:=Lib.hid hb1
 clear hB hb1 hA
 go_wp2
 obtain ⟨g1,g2,g3⟩:=set2 (.string c.m) (.int .i64 c.s) (HH.out.setOther 0 (.string c.m) (show w.heap.size+1≠w.heap.size by omega))
 exact ret2 Tryz.results232 rfl g1 rfl ⟨rfl,(((((Below.refl _ _).alloc (Nat.le_refl _) _).alloc (by simp) _).trans (HL.out.mono (by simp;omega))).setCell (p:=⟨w.heap.size,0,none⟩) (Nat.le_refl _) _).trans (g3 _ (by omega))⟩
def encC(i:Nat)(c:Cut):Array Value:=#[.int .i64 i,c.val]
def NextC(g B:Nat)(p:ByteArray)(nx:Cut→Option Cut)(xs:List Cut):Prop:=∀ c∈xs,∀ W,Blk W B 9 #[.string p] →
 Calls Tryz.prog g #[c.val,.pointer (some ⟨B,0,none⟩)] W fun e w'=>e=.returned (cutV (nx c))∧Below W.heap.size W w'
structure Chain (nx:Cut→Option Cut) (first:Option Cut) (xs:List Cut):Prop where
 first:xs[0]?=first
 next:∀ (i:Nat) (c:Cut),xs[i]?=some c→nx c=xs[i+1]?
 two:∀ c∈xs,2≤c.fr
 many:xs.length≤1000000000000000
theorem neq_no(c:Cut)(h:2≤c.fr)(W:World):(binOp .neq 343 (.agg #[.string c.m,.int .i64 c.s,.int .i64 c.fr,.int .i64 c.to]) (.agg #[.string ⟨#[]⟩,.int .i64 0,.int .i64 0,.int .i64 0])).run Tryz.prog W=.ok (.bool true) W:=by
 simp [go_sem]
 omega
theorem neq_no2(W:World):(binOp .neq 343 (.agg #[.string ⟨#[]⟩,.int .i64 0,.int .i64 0,.int .i64 0]) (.agg #[.string ⟨#[]⟩,.int .i64 0,.int .i64 0,.int .i64 0])).run Tryz.prog W=.ok (.bool false) W:=by
 simp [go_sem]
theorem walk1_any(g B B1 B2:Nat)(p:ByteArray)(nx:Cut→Option Cut)(xs:List Cut)(m:ByteArray)(s f t:Int)(hc:Chain nx xs[0]? xs)(hN:NextC g B p nx xs)(eg:∀ args w,(callFunc g args).run Tryz.prog w=.ok (.enter g args) w)
   (L:List Nat) (w:World) (hL:∀ k∈L,k<w.heap.size) (hB:B ∉ L) (_:B1 ∉ L) (hB2:B2 ∉ L) (h0:Blk w B 9 #[.string p]) (h1:Blk w B1 343 #[.string m,.int .i64 s,.int .i64 f,.int .i64 t]) (hm:cutV xs[0]?=.agg #[.string m,.int .i64 s,.int .i64 f,.int .i64 t])
   (h2:Blk w B2 347 #[.func (.func g) #[] #[.pointer (some ⟨B,0,none⟩)]]) :
   SeqX Tryz.prog 254 #[.pointer (some ⟨B1,0,none⟩),.pointer (some ⟨B2,0,none⟩)] encC xs L w:=by
 intro l J Jx W hW hJ hJx hY hJ0
 have k0:=h0.later hW
 have k1:=h1.later hW
 have k2:=h2.later hW
 obtain ⟨a0,a1,a2,a3,b0,b1,b2,b3⟩:=facts4 k1
 have hsz:=hW.size
 refine callsIn_of_wp Tryz.func254 rfl trivial ?_ rfl
 simp only [Tryz.ntmps254,List.size_toArray,List.length_cons,List.length_nil,Nat.reduceAdd,Nat.reduceSub,Array.replicate_succ,Array.replicate_zero,List.push_toArray,List.append_toArray,List.nil_append,List.cons_append]
 have HN:=Lib.hid hN
 have HY:=Lib.hid hY
 have HC:=Lib.hid hc
 clear hN hY hc
 gi_wp2
 gi_loopw [4,5] (fun at' cp wr=>∃ (i C:Nat) (m:ByteArray) (s f t:Int),at'=.int .i64 i∧cp=.pointer (some ⟨C,0,none⟩)∧i≤xs.length∧J i wr∧w.heap.size≤C∧Blk wr C 343 #[.string m,.int .i64 s,.int .i64 f,.int .i64 t]∧cutV xs[i]?=.agg #[.string m,.int .i64 s,.int .i64 f,.int .i64 t]∧Blk wr B 9 #[.string p]∧Blk wr B2 347 #[.func (.func g) #[] #[.pointer (some ⟨B,0,none⟩)]])
   (fun at' _ _=>xs.length-(intOf at').toNat)
 case atStart=>exact ⟨0,_,m,s,f,t,rfl,rfl,Nat.zero_le _,hJ _ _ _ hJ0 ((Below.refl _ _).alloc (Nat.le_refl _) _),hsz,heap_at rfl,hm,k0.alloc _,k2.alloc _⟩
 case round =>
   clear a0 a1 a2 a3 b0 b1 b2 b3 k0 k1 k2 hm h1
   obtain ⟨i,C,m',s',f',t',rfl,rfl,hi,hJi,hC,k1,hm,k0,k2⟩:=hrel
   obtain ⟨a0,a1,a2,a3,b0,b1,b2,b3⟩:=facts4 k1
   obtain ⟨c2,_⟩:=facts1 k2
   cases hx:xs[i]? with
   | none =>
     rw [hx] at hm
     unfold cutV noCut at hm
     simp only [Value.agg.injEq,Array.mk.injEq,List.cons.injEq,Value.string.injEq,Value.int.injEq,and_true,true_and] at hm
     obtain ⟨rfl,rfl,rfl,rfl⟩:=hm
     have hne:=neq_no2
     have hil:i=xs.length:=by have:=List.getElem?_eq_none_iff.1 hx;omega
     rw [hil] at hJi
     clear hil
     gi_wp2
     refine ⟨fun _ h=>(by cases h),?_⟩
     gi_wp2
     go_end0
     exact ⟨⟨_,rfl⟩,.inl hJi⟩
   | some c =>
     rw [hx] at hm
     unfold cutV Cut.val at hm
     simp only [Value.agg.injEq,Array.mk.injEq,List.cons.injEq,Value.string.injEq,Value.int.injEq,and_true,true_and] at hm
     obtain ⟨rfl,rfl,rfl,rfl⟩:=hm
     have hne:=neq_no c (HC.out.two c (List.mem_of_getElem? hx))
     have hlt:i<xs.length:=by have:=List.getElem?_eq_some_iff.1 hx;exact this.1
     obtain ⟨fn,tmps,assign,body,hy,hR⟩:=HY.out i c wr hx hJi
     unfold encC Cut.val at hy
     gi_wp2_with fail
     (try refine ⟨fun _=>by decide,?_⟩)
     refine hR.mono ?_
     rintro e W3 (⟨rfl,hJ3,hk3⟩|⟨rfl,hJx3⟩)
     · have k13:=k1.keep hk3 (fun h=>by have:=hL _ h;omega)
       have k03:=k0.keep hk3 hB
       have k23:=k2.keep hk3 hB2
       obtain ⟨a30,a31,a32,a33,b30,b31,b32,b33⟩:=facts4 k13
       obtain ⟨c23,_⟩:=facts1 k23
       have HK:=Lib.hid hk3
       have hNc:=fun W h=>Lib.hid (HN.out c (List.mem_of_getElem? hx) W h)
       unfold Cut.val at hNc
       have hi9:(i:Int)≤1000000000000000:=by have:=HC.out.many;omega
       have hi0:(0:Int)≤i:=by omega
       obtain ⟨c24,_⟩:=facts1 (k23.alloc (Obj.cells #[Value.string c.m,Value.int IntKind.i64 c.s,Value.int IntKind.i64 c.fr,Value.int IntKind.i64 c.to] 343))
       have k04:=k03.alloc (Obj.cells #[Value.string c.m,Value.int IntKind.i64 c.s,Value.int IntKind.i64 c.fr,Value.int IntKind.i64 c.to] 343)
       clear hR hy hk3
       gi_wp2_with fail
       refine ⟨trivial,?_⟩
       refine callsIn_wide.2 (Calls.mono (hNc _ k04).out ?_)
       rintro e W5 ⟨rfl,hb5⟩
       have hJ5:=hJ _ _ _ hJ3 ((((Below.refl _ _).alloc (Nat.le_refl _) _).trans (hb5.mono (by simp))))
       obtain ⟨m5,s5,f5,t5,h5⟩:=cutV_shape (nx c)
       have hn5:=HC.out.next i c hx
       rw [h5]
       have k15:=(Blk.new W3 343 #[Value.string c.m,Value.int IntKind.i64 c.s,Value.int IntKind.i64 c.fr,Value.int IntKind.i64 c.to]).later hb5
       obtain ⟨d0,d1,d2,d3,o0,o1,o2,o3⟩:=facts4 k15
       have HB5:=Lib.hid hb5
       clear hb5
       gi_wp2
       obtain ⟨g1,g2,g3⟩:=set4 (.string m5) (.int .i64 s5) (.int .i64 f5) (.int .i64 t5) k15
       have hb9:W3.heap.size<W5.heap.size:=k15.lt
       have hCw:C<W3.heap.size:=k13.lt
       refine ⟨⟨i+1,W3.heap.size,m5,s5,f5,t5,by go_num,rfl,hlt,?_,by omega,g1,by rw [← hn5];exact h5,?_,?_⟩,by simp [intOf];omega⟩
       · exact hJ _ _ _ hJ3 ((((Below.refl _ _).alloc (Nat.le_refl _) _).trans (HB5.out.mono (by simp))).trans (g3 _ (Nat.le_refl _)))
       · exact (g2 _ (by have:=k03.lt;omega)).trans (k04.later HB5.out)
       · exact (g2 _ (by have:=k23.lt;omega)).trans ((k23.alloc _).later HB5.out)
     · gi_wp2
       go_end0
       exact ⟨⟨_,rfl⟩,.inr ⟨_,hJx3⟩⟩
def nextF(p:ByteArray)(c:Cut):Option Cut:=begunS p c.to
theorem forth1_next(p:ByteArray)(hp:p.size≤281474976710656)(B:Nat)(xs:List Cut)(hx:∀ c∈xs,c.to≤p.size):NextC 235 B p (nextF p) xs:=by
 intro c hc W hB
 have hto:=hx c hc
 have HB:=fun w=>Lib.hid (begun_any p hp (c.to:Int) (by omega) (by omega) w)
 rw [show begunI p (c.to:Int)=nextF p c by unfold begunI nextF;rw [if_neg (by omega)];rfl] at HB
 obtain ⟨m,s,f,t,h⟩:=cutV_shape (nextF p c)
 rw [h] at HB ⊢
 clear h
 obtain ⟨e0,_⟩:=facts1 hB
 unfold Cut.val
 have e1:=(facts1 ((hB.alloc (Obj.cells #[Value.string c.m,Value.int IntKind.i64 c.s,Value.int IntKind.i64 c.fr,Value.int IntKind.i64 c.to] 343)).alloc (Obj.cells #[Value.string { data:=#[] },Value.int IntKind.i64 0,Value.int IntKind.i64 0,Value.int IntKind.i64 0] 343))).1
 go_enter Tryz.func235,Tryz.ntmps235
 go_wp2_with fail
 refine (HB _).out.mono ?_
 rintro e w1 ⟨rfl,hb1⟩
 have hA:=(Blk.new (W.alloc (Obj.cells #[Value.string c.m,Value.int IntKind.i64 c.s,Value.int IntKind.i64 c.fr,Value.int IntKind.i64 c.to] 343)) 343 #[Value.string { data:=#[] },Value.int IntKind.i64 0,Value.int IntKind.i64 0,Value.int IntKind.i64 0]).later hb1
 rw [World.size_alloc] at hA
 obtain ⟨a0,a1,a2,a3,b0,b1,b2,b3⟩:=facts4 hA
 have HA:=Lib.hid hA
 have HL:=Lib.hid hb1
 clear hb1 hA
 go_wp2
 obtain ⟨g1,g2,g3⟩:=set4 (.string m) (.int .i64 s) (.int .i64 f) (.int .i64 t) HA.out
 exact ret4 Tryz.results235 rfl g1 rfl ⟨rfl,((((Below.refl _ _).alloc (Nat.le_refl _) _).alloc (by simp) _).trans (HL.out.mono (by simp;omega))).trans (g3 _ (by omega))⟩
def Goes(v:Value)(xs:List Cut)(n0:Nat)(w:World):Prop:=∃ lb,v=.func (.func 254) #[] lb∧∀ (L:List Nat) (W:World),Below w.heap.size w W→(∀ k∈L,k<n0∧k<W.heap.size)→SeqX Tryz.prog 254 lb encC xs L W
theorem walk_any(n0 g B:Nat)(p:ByteArray)(nx:Cut→Option Cut)(xs:List Cut)(hc:Chain nx xs[0]? xs)(hN:NextC g B p nx xs)(eg:∀ args w,(callFunc g args).run Tryz.prog w=.ok (.enter g args) w)(w:World)(h0:Blk w B 9 #[.string p])(hn:n0≤B) :
   Calls Tryz.prog 233 #[cutV xs[0]?,.func (.func g) #[] #[.pointer (some ⟨B,0,none⟩)]] w fun e w'=>∃ v,e=.returned v∧Goes v xs n0 w'∧Below w.heap.size w w':=by
 have hmf:∀ (fn:Fn) (first cap:Array Value) (w:World),(Instr.makeFunc fn first cap).run Tryz.prog w=.ok (.func fn first cap) w:=fun _ _ _ _=>rfl
 obtain ⟨m,s,f,t,h⟩:=cutV_shape xs[0]?
 rw [h]
 go_enter Tryz.func233,Tryz.ntmps233
 go_wp2
 go_ret
 have k0:=(h0.alloc (Obj.cells #[Value.string m,Value.int IntKind.i64 s,Value.int IntKind.i64 f,Value.int IntKind.i64 t] 343)).alloc (Obj.cells #[Value.func (Fn.func g) #[] #[Value.pointer (some { block:=B,off:=0 })]] 347)
 have k1:=(Blk.new w 343 #[Value.string m,Value.int IntKind.i64 s,Value.int IntKind.i64 f,Value.int IntKind.i64 t]).alloc (Obj.cells #[Value.func (Fn.func g) #[] #[Value.pointer (some { block:=B,off:=0 })]] 347)
 have k2:=Blk.new (w.alloc (Obj.cells #[Value.string m,Value.int IntKind.i64 s,Value.int IntKind.i64 f,Value.int IntKind.i64 t] 343)) 347 #[Value.func (Fn.func g) #[] #[Value.pointer (some { block:=B,off:=0 })]]
 rw [World.size_alloc] at k2
 have hB:=h0.lt
 refine ⟨_,rfl,⟨_,rfl,fun L W hW hL=>?_⟩,((Below.refl _ _).alloc (Nat.le_refl _) _).alloc (by simp) _⟩
 have no:∀ k,n0≤k→k ∉ L:=fun k hk hk2=>by have:=(hL k hk2).1;omega
 exact walk1_any g B _ _ p nx xs m s f t hc hN eg L W (fun k hk=>(hL k hk).2) (no _ (by omega)) (no _ (by omega)) (no _ (by omega)) (k0.later hW) (k1.later hW) h (k2.later hW)
theorem forth_any(p:ByteArray)(hp:p.size≤281474976710656)(xs:List Cut)(hc:Chain (nextF p) (begunS p 2) xs)(hx:∀ c∈xs,c.to≤p.size)(w:World) :
   Calls Tryz.prog 210 #[.string p] w fun e w'=>∃ v,e=.returned v∧Goes v xs w.heap.size w'∧Below w.heap.size w w':=by
 have hmf:∀ (fn:Fn) (first cap:Array Value) (w:World),(Instr.makeFunc fn first cap).run Tryz.prog w=.ok (.func fn first cap) w:=fun _ _ _ _=>rfl
 have HB:=fun w=>Lib.hid (begun_any p hp 2 (by omega) (by omega) w)
 rw [show begunI p 2=xs[0]? from hc.first.symm] at HB
 have hc':Chain (nextF p) xs[0]? xs:=⟨rfl,hc.next,hc.two,hc.many⟩
 go_enter Tryz.func210,Tryz.ntmps210
 go_wp2_with fail
 refine (HB _).out.mono ?_
 rintro e w1 ⟨rfl,hb1⟩
 have hA:=(Blk.new w 9 #[Value.string p]).later hb1
 have HW:=Lib.hid (walk_any w.heap.size 235 w.heap.size p (nextF p) xs hc' (forth1_next p hp _ xs hx) (fun _ _=>by kernel_rfl) w1 hA (Nat.le_refl _))
 have HL:=Lib.hid hb1
 clear hb1 hA
 go_wp2_with fail
 refine HW.out.mono ?_
 rintro e w2 ⟨v,rfl,hG,hb2⟩
 have HG:=Lib.hid hG
 have HL2:=Lib.hid hb2
 clear hG hb2
 go_wp2
 go_ret
 exact ⟨_,rfl,HG.out,(((Below.refl _ _).alloc (Nat.le_refl _) _).trans (HL.out.mono (by simp))).trans (HL2.out.mono (Nat.le_trans (by simp) HL.out.size))⟩
theorem res4{fn:Func}{tmps:Array Value}{W:World}{b k:Nat}{v0 v3 v1 v2:Value}(hr:fn.results=#[.cell k 343])(hk:tmps.getD k undef=.pointer (some ⟨b,0,none⟩))(hB:Blk W b 343 #[v0,v1,v2,v3]) :
   (results fn tmps).run Tryz.prog W=.ok (.agg #[v0,v1,v2,v3]) W:=by
 obtain ⟨e0,e1,e2,e3,f0,f1,f2,f3⟩:=facts4 hB
 have hk2:tmps[k]?.getD undef=.pointer (some ⟨b,0,none⟩):=by rw [← Array.getD_eq_getD_getElem?];exact hk
 simp [results,hr,hk2,go_sem,e0,e1,e2,e3]
theorem res1{fn:Func}{tmps:Array Value}{W:World}{b k:Nat}{t:TypeId}{v0:Value}(ht:t=3∨t=4)(hr:fn.results=#[.cell k t])(hk:tmps.getD k undef=.pointer (some ⟨b,0,none⟩))(hB:Blk W b t #[v0]) :
   (results fn tmps).run Tryz.prog W=.ok v0 W:=by
 obtain ⟨e0,f0⟩:=facts1 hB
 have hk2:tmps[k]?.getD undef=.pointer (some ⟨b,0,none⟩):=by rw [← Array.getD_eq_getD_getElem?];exact hk
 rcases ht with rfl|rfl <;> simp [results,hr,hk2,go_sem,e0]
theorem own_below{β:Type}(B:Nat)(w0:World)(hB:w0.heap.size≤B):OwnFrom B (fun (_:β) W=>Below w0.heap.size w0 W):=fun _ X Y row hs hg hr =>
 ⟨hg.os.trans hs.os,hg.tape.trans hs.tape,hg.output.trans hs.output,Nat.le_trans hs.size hg.size,fun k hk=>(hg.block k (Nat.lt_of_lt_of_le hk hs.size) (fun e=>by have:=(hr k e.symm).1;omega)).trans (hs.block k hk)⟩
theorem own_blk{β:Type}(B b:Nat)(t:TypeId)(c:β→Array Value):OwnFrom B (fun s W=>Blk W b t (c s)):=fun s X Y row hs hg hr =>
 (hg.block b hs.lt (fun e=>by obtain ⟨_,o,ho,hc⟩:=hr b e.symm;rw [show X.heap[b]?=_ from hs] at ho;cases ho;cases hc)).trans hs
theorem own_ex{β γ:Type}{B:Nat}{I:γ→β→World→Prop}(h:∀ g,OwnFrom B (I g)):OwnFrom B (fun s W=>∃ g,I g s W):=fun s X Y row ⟨g,hs⟩ hg hr=>⟨g,h g s X Y row hs hg hr⟩
theorem own_pure{β:Type}(B:Nat)(q:β→Prop):OwnFrom B (fun s (_:World)=>q s):=fun _ _ _ _ h _ _=>h
theorem Blk.put{W:World}{b D:Nat}{t:TypeId}{c:Array Value}(h:Blk W b t c)(o:Obj)(hne:b≠D):Blk (W.putObj D o) b t c:=(World.putObj_heap_other hne).trans h
theorem Blk.put'{W:World}{b D:Nat}{t:TypeId}{c:Array Value}{ds:Option (List Deferred)}(h:Blk W b t c)(hD:W.heap[D]?=some (.deferred ds))(o:Obj):Blk (W.putObj D o) b t c :=
 h.put o (fun e=>by subst e;have:=(show W.heap[b]?=_ from h).symm.trans hD;cases this)
theorem leave{fn:Func}{R:Ending→World→Prop}{a:Act}{W:World}{D:Nat}{v:Value}(hd:a.defers=[{ target:=.collected D,args:=#[] }])(hD:W.heap[D]?=some (.deferred (some [])))
   (hr:(results fn a.tmps).run Tryz.prog (W.putObj D (.deferred none))=.ok v (W.putObj D (.deferred none))) (hR:R (.returned v) (W.putObj D (.deferred none))):bodyPostM Fence.wide 6 Tryz.prog fn R .ret a W:=by
 obtain ⟨tmps,ds⟩:=a
 simp only at hd
 subst hd
 exact ⟨by simp,.inl ⟨_,_,rfl,run_takeDeferred hD,⟨v,hr,hR⟩⟩⟩
theorem below_put{w W:World}{D:Nat}(hb:Below w.heap.size w W)(hn:w.heap.size≤D)(o:Obj):Below w.heap.size w (W.putObj D o) :=
 hb.trans ⟨rfl,rfl,rfl,by simp [World.putObj],fun k hk=>World.putObj_heap_other (by omega)⟩
theorem keeps_drew(B:Nat)(W:World):KeepsFrom B W W.drew:=⟨Nat.le_refl _,fun _ _ _ h _=>h⟩
theorem keepc_drew(L:List Nat)(W:World):KeepC L W W.drew:=⟨Nat.le_refl _,fun _ _ _ _ _ h=>h⟩
end Go.Proofs.YtlckdfoflimahaaGreatDoor.Pk
namespace Go.Proofs.YtlckdfoflimahaaGreatDoor.Pk
open Go.RowKit Go.Shelf
theorem ba_ext{a b:ByteArray}(h:a.data.toList=b.data.toList):a=b:=ByteArray.ext (Array.toList_inj.1 h)
theorem size_list(t:ByteArray):t.data.toList.length=t.size:=by rw [Array.length_toList];rfl
theorem begunS_some{p:ByteArray}{k:Nat}{c:Cut}(h:begunS p k=some c):2≤k∧c.fr=k∧c.to=k+byte p k+10∧c.to≤p.size∧byte p k≤64∧c.m=p.extract (k+1) (k+1+byte p k)∧c.m.size=byte p k ∧
   c.s=scoreL ((p.data.toList.drop (k+1+byte p k)).take 8):=by
 unfold begunS at h
 split at h
 · cases h
 · split at h
   · cases h
   · cases h
     refine ⟨by omega,rfl,rfl,by simp only;omega,by omega,rfl,?_,rfl⟩
     simp
     omega
theorem begunS_end(p:ByteArray):begunS p p.size=none:=by unfold begunS;rw [if_pos (by omega)]
theorem ended_iff{p:ByteArray}{k:Nat}{c:Cut}(h:begunS p k=some c):endedS p c.to=some c↔byte p (c.to-1)=c.m.size+9:=by
 obtain ⟨h2,hf,ht,hs,h64,_,hm,_⟩:=begunS_some h
 unfold endedS begunI
 generalize hb:byte p (c.to-1)=b
 constructor
 · intro he
   split at he
   · cases he
   · have:=(begunS_some he).2.1
     omega
 · intro he
   rw [if_neg (by omega),show ((c.to:Int)-1-b).toNat=k by omega]
   exact h
def goS(p:ByteArray):Nat→Nat→Option (List Cut)
 | 0,pos=>if pos=p.size then some [] else none
 | n+1,pos=>match begunS p pos with
   | none=>none
   | some c=>if byte p (c.to-1)=c.m.size+9 then (goS p n c.to).map (c :: ·) else none
def entriesS(p:ByteArray):Option (List Cut):=if 0≤countS p then goS p (countS p).toNat 2 else none
def rightB(p:ByteArray):Bool:=(entriesS p).isSome
theorem chain_from(p:ByteArray):∀ (n pos:Nat),p.size≤pos+n→∃ xs:List Cut,xs[0]?=begunS p pos∧(∀ (i:Nat) (c:Cut),xs[i]?=some c→nextF p c=xs[i+1]?)∧(∀ c∈xs,2≤c.fr∧2≤c.to∧c.to≤p.size)∧xs.length≤n
 | 0,pos,h=>⟨[],by unfold begunS;rw [if_pos (by omega)];rfl,fun i c h=>by simp at h,fun c h=>by simp at h,Nat.le_refl _⟩
 | n+1,pos,h=>by
   cases hb:begunS p pos with
   | none=>exact ⟨[],rfl,fun i c h=>by simp at h,fun c h=>by simp at h,by simp⟩
   | some c =>
     obtain ⟨h2,hf,ht,hs,h64,_,hm,_⟩:=begunS_some hb
     obtain ⟨xs,h0,hn,ha,hl⟩:=chain_from p n c.to (by omega)
     refine ⟨c :: xs,rfl,fun i d hd=>?_,fun d hd=>?_,by simp;omega⟩
     · cases i with
       | zero=>simp at hd;subst hd;rw [show (c :: xs)[0+1]?=xs[0]? by simp,h0];rfl
       | succ i=>simp at hd;rw [hn i d hd];simp
     · rcases List.mem_cons.1 hd with rfl|hd
       · omega
       · exact ha d hd
theorem chain_exists(p:ByteArray)(hp:p.size≤281474976710656):∃ xs,Chain (nextF p) (begunS p 2) xs∧∀ c∈xs,2≤c.to∧c.to≤p.size:=by
 obtain ⟨xs,h0,hn,ha,hl⟩:=chain_from p p.size 2 (by omega)
 exact ⟨xs,⟨h0,hn,fun c h=>(ha c h).1,by omega⟩,fun c h=>(ha c h).2⟩
def endOf(xs:List Cut)(i:Nat):Nat:=match i with
 | 0=>2
 | i+1=>(xs[i]?.map Cut.to).getD 0
def GoodTo(p:ByteArray)(xs:List Cut)(i:Nat):Prop:=∀ (j:Nat) (c:Cut),j<i→xs[j]?=some c→endedS p c.to=some c
theorem chain_at{p:ByteArray}{xs:List Cut}(hc:Chain (nextF p) (begunS p 2) xs):∀ i,i≤xs.length→begunS p (endOf xs i)=xs[i]?
 | 0,_=>hc.first.symm
 | i+1,h=>by
   have hx:xs[i]?=some (xs[i]'(by omega)):=List.getElem?_eq_getElem (by omega)
   rw [← hc.next i _ hx]
   simp [endOf,hx,nextF]
theorem goS_chain{p:ByteArray}{xs:List Cut}(hc:Chain (nextF p) (begunS p 2) xs)(n:Nat):∀ i,i≤xs.length→i≤n→GoodTo p xs i→goS p n 2=(goS p (n-i) (endOf xs i)).map (xs.take i++·)
 | 0,_,_,_=>by simp [endOf]
 | i+1,h,hn,hg=>by
   rw [goS_chain hc n i (by omega) (by omega) (fun j c hj hx=>hg j c (by omega) hx)]
   have hx:xs[i]?=some (xs[i]'(by omega)):=List.getElem?_eq_getElem (by omega)
   have hb:=(chain_at hc i (by omega)).trans hx
   have he:=hg i _ (by omega) hx
   rw [ended_iff hb] at he
   obtain ⟨m,hm⟩:∃ m,n-i=m+1:=⟨n-i-1,by omega⟩
   rw [hm,show n-(i+1)=m by omega]
   have e1:endOf xs (i+1)=(xs[i]'(by omega)).to:=by simp [endOf,hx]
   rw [e1,goS.eq_def]
   simp only [hb,if_pos he,Option.map_map]
   congr 1
   funext l
   show List.take i xs++(xs[i] :: l)=List.take (i+1) xs++l
   rw [List.take_succ_eq_append_getElem (show i<xs.length by omega),List.append_assoc]
   rfl
theorem countS_range(p:ByteArray):-1≤countS p∧countS p≤200:=by
 unfold countS
 split
 · omega
 · split <;> omega
theorem right_ans{p:ByteArray}{xs:List Cut}(hc:Chain (nextF p) (begunS p 2) xs)(i:Nat)(hg:GoodTo p xs i)(hl:i≤xs.length)(h1:i=xs.length∨countS p≤i)(h2:i=0∨(i:Int)≤countS p) :
   rightB p=(decide ((i:Int)=countS p)&&decide ((endOf xs i:Int)=p.size)):=by
 unfold rightB entriesS
 have:=countS_range p
 by_cases hn:0≤countS p
 · rw [if_pos hn,goS_chain hc _ i hl (by omega) hg]
   by_cases hi:(i:Int)=countS p
   · rw [show (countS p).toNat-i=0 by omega]
     unfold goS
     by_cases he:endOf xs i=p.size
     · simp [hi,he]
     · have he2:¬ ((endOf xs i:Int)=p.size):=by omega
       simp [he,he2]
   · obtain ⟨m,hm⟩:∃ m,(countS p).toNat-i=m+1:=⟨(countS p).toNat-i-1,by omega⟩
     have hi2:i=xs.length:=by omega
     rw [hm,goS.eq_def]
     simp only [chain_at hc i hl,List.getElem?_eq_none (show xs.length≤i by omega)]
     simp [hi]
 · rw [if_neg hn]
   have hi:¬ (i:Int)=countS p:=by omega
   simp [hi]
theorem right_false{p:ByteArray}{xs:List Cut}(hc:Chain (nextF p) (begunS p 2) xs)(i:Nat)(c:Cut)(hg:GoodTo p xs i)(hx:xs[i]?=some c)(he:endedS p c.to≠some c)(hn:(i:Int)<countS p):rightB p=false:=by
 unfold rightB entriesS
 have hl:i<xs.length:=(List.getElem?_eq_some_iff.1 hx).1
 rw [if_pos (by omega),goS_chain hc _ i (by omega) (by omega) hg]
 obtain ⟨m,hm⟩:∃ m,(countS p).toNat-i=m+1:=⟨(countS p).toNat-i-1,by omega⟩
 have hb:=(chain_at hc i (by omega)).trans hx
 rw [ne_eq,ended_iff hb] at he
 rw [hm,goS.eq_def]
 simp only [hb,if_neg he]
 simp
theorem goS_some{p:ByteArray}:∀ (n pos:Nat) (cs:List Cut),goS p n pos=some cs→cs.length=n∧cs[0]?=begunS p pos∧(∀ (i:Nat) (c:Cut),cs[i]?=some c→nextF p c=cs[i+1]?) ∧
   (∀ c∈cs,2≤c.fr∧2≤c.to∧c.to≤p.size∧c.fr≤p.size∧endedS p c.to=some c)∧((cs.getLast?.map Cut.to).getD pos=p.size)
 | 0,pos,cs,h=>by
   unfold goS at h
   split at h
   · next he=>cases h;refine ⟨rfl,by rw [he,begunS_end];rfl,fun i c h=>by simp at h,fun c h=>by simp at h,by simpa using he⟩
   · cases h
 | n+1,pos,cs,h=>by
   rw [goS.eq_def] at h
   cases hb:begunS p pos with
   | none=>simp [hb] at h
   | some c =>
     simp only [hb] at h
     split at h
     · next he =>
       obtain ⟨l,hl,rfl⟩:=Option.map_eq_some_iff.1 h
       obtain ⟨i1,i2,i3,i4,i5⟩:=goS_some n c.to l hl
       obtain ⟨h2,hf,ht,hs,h64,_,hm,_⟩:=begunS_some hb
       refine ⟨by simp [i1],rfl,fun i d hd=>?_,fun d hd=>?_,?_⟩
       · cases i with
         | zero=>simp at hd;subst hd;rw [show (c :: l)[0+1]?=l[0]? by simp,i2];rfl
         | succ i=>simp at hd;rw [i3 i d hd];simp
       · rcases List.mem_cons.1 hd with rfl|hd
         · exact ⟨by omega,by omega,by omega,by omega,(ended_iff hb).2 he⟩
         · exact i4 d hd
       · cases l with
         | nil=>simpa using i5
         | cons d l =>
           rw [List.getLast?_cons_cons]
           obtain ⟨y,hy⟩:∃ y,(d :: l).getLast?=some y:=⟨_,List.getLast?_eq_some_getLast (by simp)⟩
           rw [hy] at i5 ⊢
           exact i5
     · cases h
end Go.Proofs.YtlckdfoflimahaaGreatDoor.Pk

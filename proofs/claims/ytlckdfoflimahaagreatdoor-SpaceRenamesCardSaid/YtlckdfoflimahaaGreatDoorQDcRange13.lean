/- Texts of one kind in one: DcRange, DcIter, DcSize, DcSum, DcRefs, DcMem. -/
import Derived.Test.YtlckdfoflimahaaGreatDoorRows
import Derived.RangeFuncNested
import Derived.RangeFuncBound
import Derived.RangeFuncCalls
import Derived.RangeFuncLeaves
import Derived.RangeFuncFrom
import Derived.Shelf.Abstract
import Derived.Shelf.RegionOpen
import Derived.WalkKit
import Derived.WalkSpells
import Derived.WalkLawsBesides
import Derived.OwnWalkIn
import Derived.TacticsInMore
import Derived.LoopNIn
import Derived.LoopIn
import Derived.Lib.Hide
import Derived.Deep.RegionWith
import Derived.Deep.QuietTactic
import Derived.BigQuiet
import Derived.BigRegion
import Derived.WalkSmall
import Derived.Handy
import Derived.WalkMore
import Derived.IntWalk
import Derived.ScopeJumps
import Derived.Maps.AppendAt
import Derived.Laws.OwnMore
import Derived.Deep.AppendLies
import Derived.Deep.RegionLaw
set_option maxRecDepth 200000
set_option maxHeartbeats 8000000
namespace Go.Proofs.YtlckdfoflimahaaGreatDoor.Dc
open Go.RowKit Go.Shelf
attribute [local go_sem] Oper.semAt_some
theorem heap_at{w:World}{o:Obj}{k:Nat}(h:k=w.heap.size):(w.alloc o).heap[k]?=some o:=by subst h;exact heap_alloc_new w o
def itT(t:TypeId):Prop:=t=9∨t=263∨t=24∨t=92
structure KeepC (L:List Nat) (A B:World):Prop where
 size:A.heap.size≤B.heap.size
 same:∀ (k:Nat) (c:Array Value) (t:TypeId),k ∉ L→itT t→A.heap[k]?=some (.cells c t (0,0))→B.heap[k]?=some (.cells c t (0,0))
theorem KeepC.refl(L:List Nat)(A:World):KeepC L A A:=⟨Nat.le_refl _,fun _ _ _ _ _ h=>h⟩
theorem KeepC.trans{L:List Nat}{A B C:World}(h:KeepC L A B)(g:KeepC L B C):KeepC L A C:=⟨Nat.le_trans h.size g.size,fun k c t hk hc ho=>g.same k c t hk hc (h.same k c t hk hc ho)⟩
theorem KeepC.of_below{L:List Nat}{A B:World}(h:Below A.heap.size A B):KeepC L A B:=⟨h.size,fun k _ _ _ _ ho=>(h.block k (Array.getElem?_eq_some_iff.1 ho).1).trans ho⟩
theorem KeepC.put{L:List Nat}(W:World)(l:Nat)(o o':Obj)(hl:W.heap[l]?=some o)(hc:o.isCells=false):KeepC L W (W.putObj l o') :=
 ⟨by simp [World.putObj],fun k c t _ _ hk=>by
   by_cases e:k=l
   · subst e;rw [hl] at hk;cases hk;cases hc
   · exact (World.putObj_heap_other e).trans hk⟩
theorem KeepC.set{L:List Nat}(W:World)(b o:Nat)(v:Value)(hb:b∈L):KeepC L W (W.setCell ⟨b,o,none⟩ v) :=
 ⟨by simp [World.setCell],fun k c t hk _ hx=>(Below.heap_setCell _ _ _ k (fun e=>hk (by rw [e];exact hb))).trans hx⟩
def Abides(J:Nat→World→Prop):Prop:=∀ i A B,J i A→Below A.heap.size A B→J i B
def RoundX(L:List Nat)(J Jx:Nat→World→Prop)(i:Nat)(W:World)(e:Ending)(W':World):Prop :=
 (e=.returned (.bool true)∧J (i+1) W'∧KeepC L W W')∨(e=.returned (.bool false)∧Jx (i+1) W')
def SeqX{α:Type}(P:Program)(g:Nat)(lb:Array Value)(encs:Nat→α→Array Value)(xs:List α)(L:List Nat)(w:World):Prop :=
 ∀ (l:Nat) (J Jx:Nat→World→Prop) (W:World),Below w.heap.size w W→Abides J→Abides Jx →
   (∀ i x W1,xs[i]?=some x→J i W1→YieldAt Fence.wide 4 P l (encs i x) W1 (RoundX L J Jx i W1))→J 0 W →
   CallsIn Fence.wide 5 P g (#[.func (.yield l) #[] #[]]++lb) W fun e W'=>(∃ v,e=.returned v)∧(J xs.length W'∨∃ i,Jx i W')
def SeqF{α:Type}(P:Program)(g:Nat)(fb lb:Array Value)(encs:Nat→α→Array Value)(xs:List α)(L:List Nat)(w:World):Prop :=
 ∀ (l:Nat) (J Jx:Nat→World→Prop) (W:World),Below w.heap.size w W→Abides J→Abides Jx →
   (∀ i x W1,xs[i]?=some x→J i W1→YieldAt Fence.wide 4 P l (encs i x) W1 (RoundX L J Jx i W1))→J 0 W →
   CallsIn Fence.wide 5 P g (fb++#[.func (.yield l) #[] #[]]++lb) W fun e W'=>(∃ v,e=.returned v)∧(J xs.length W'∨∃ i,Jx i W')
def bodyX(B:Nat)(L:List Nat)(I:Nat→World→Prop)(Ix:Code→Nat→World→Prop)(i:Nat)(W:World):Exit→Act→World→Prop
 | .normal,_,W'=>KeepsFrom B W W'∧KeepC L W W'∧I (i+1) W'
 | .ret,_,W'=>KeepsFrom B W W'∧Ix .ret (i+1) W'
 | .exit id,_,W'=>KeepsFrom B W W'∧Ix (.exit id) (i+1) W'
 | _,_,_=>False
theorem below_grown{A B:World}(h:Below A.heap.size A B):A.grownBy B none:=⟨h.os,h.tape,h.output,h.size,fun q hq _=>h.block q hq⟩
theorem range_x{α:Type}{P:Program}{g:Operand}{ps:Array Tmp}{assign body:Code}{Q:Exit→Act→World→Prop}{a:Act}{w:World}
   {gf:Nat} {lb:Array Value} (hg:a.eval g=.func (.func gf) #[] lb) (eg:∀ args w,(callFunc gf args).run P w=.ok (.enter gf args) w)
   {encs:Nat→α→Array Value} {xs:List α} {L:List Nat} (hseq:SeqX P gf lb encs xs L w) (hps:∀ i x,(encs i x).size=ps.size)
   (I:Nat→World→Prop) (Ix:Code→Nat→World→Prop) (hI:OwnFrom w.heap.size I) (hIx:∀ c,OwnFrom w.heap.size (Ix c)) (h0:I 0 w)
   (Ax:Nat→α→Act→World→Prop) (hAx:∀ i x a',OwnFrom w.heap.size (fun (_:Unit) W=>Ax i x a' W))
   (hassign:∀ (l i:Nat) (x:α) (W:World) (K:Act→World→Prop),xs[i]?=some x→I i W→(∀ a' W',KeepsFrom w.heap.size W W'→KeepC L W W'→I i W'→Ax i x a' W'→K a' W') →
     assign.wpIn (Fence.wide.inRound l) 4 P (Exit.then K (fun _ _ _=>False)) { tmps:=(ps.zip (encs i x)).foldl (fun t (p,v)=>t.setIfInBounds p v) a.tmps,defers:=[] } W)
   (hbody:∀ (l i:Nat) (x:α) (a':Act) (W:World),xs[i]?=some x→I i W→Ax i x a' W→body.wpIn (Fence.wide.inRound l) 4 P (bodyX w.heap.size L I Ix i W) a' W)
   (hdone:∀ (D:Nat) (W:World),w.heap.size≤D→I xs.length W→W.heap[D]?=some (.deferred (some []))→Q .normal { a with defers:={ target:=.collected D,args:=#[] } :: a.defers } W)
   (hstop:∀ (D:Nat) (c:Code) (i:Nat) (W:World),w.heap.size≤D→Ix c i W→W.heap[D]?=some (.deferred (some []))→c.wpIn Fence.wide 6 P Q { a with defers:={ target:=.collected D,args:=#[] } :: a.defers } W) :
   (Code.rangeFunc g ps assign body).wpIn Fence.wide 6 P Q a w:=by
 refine wpIn_rangeFunc ?_
 intro fn hfn
 obtain ⟨rc,hrc⟩:∃ rc:LoopState→Option Code→Loop,rc=fun st pe=>{ state:=st,pending:=pe,fn,tmps:=a.tmps,params:=ps,assign,body,defers:=w.heap.size }:=⟨_,rfl⟩
 obtain ⟨W1,hW1⟩:∃ W1,(w.alloc (.deferred (some []))).alloc (.loop (rc .ready none))=W1:=⟨_,rfl⟩
 have hL1:W1.heap[w.heap.size+1]?=some (.loop (rc .ready none)):=by rw [← hW1];exact heap_at (by simp)
 have hK1:W1.heap[w.heap.size]?=some (.deferred (some [])):=by rw [← hW1];exact (Below.heap_alloc _ _ _ (by simp)).trans (heap_at rfl)
 have hI1:I 0 W1:=by rw [← hW1];exact hI.alloc _ (hI.alloc _ h0)
 have hb1:Below w.heap.size w W1:=by rw [← hW1];exact ((Below.refl _ w).alloc (Nat.le_refl _) _).alloc (by simp) _
 have hIb:Abides I:=fun i A B hA hB=>hI i A B none hA (below_grown hB) (fun r e=>by cases e)
 have hIxb:∀ c,Abides (Ix c):=fun c i A B hA hB=>hIx c i A B none hA (below_grown hB) (fun r e=>by cases e)
 refine ⟨w.heap.size+1,[{ target:=.collected w.heap.size,args:=#[] }],W1,{ target:=.fn (.func gf) lb,args:=#[.func (.yield (w.heap.size+1)) #[] #[]] },W1,gf,
   #[.func (.yield (w.heap.size+1)) #[] #[]]++lb,W1,?_,?_,?_,?_,fun _=>by decide,?_⟩
 · rw [← hW1,hrc];exact run_enterLoop_outer _ _ _ _ _
 · simp only [resolve,hg]
   simp [go_sem]
 · intro f' _;trivial
 · simp [invoke,go_sem,eg]
 · have keep:∀ {A B:World} {k:Nat} {o:Obj},Below A.heap.size A B→A.heap[k]?=some o→B.heap[k]?=some o:=fun hb hk=>(hb.block _ (Array.getElem?_eq_some_iff.1 hk).1).trans hk
   refine (hseq (w.heap.size+1)
     (fun i W=>I i W∧W.heap[w.heap.size+1]?=some (.loop (rc .ready none))∧W.heap[w.heap.size]?=some (.deferred (some [])))
     (fun i W=>∃ c,Ix c i W∧W.heap[w.heap.size+1]?=some (.loop (rc .done (some c)))∧W.heap[w.heap.size]?=some (.deferred (some [])))
     W1 hb1
     (fun i A B hs hb=>⟨hIb i A B hs.1 hb,keep hb hs.2.1,keep hb hs.2.2⟩)
     (fun i A B hs hb=>by obtain ⟨c,h1,h2,h3⟩:=hs;exact ⟨c,hIxb c i A B h1 hb,keep hb h2,keep hb h3⟩)
     ?_ ⟨hI1,hL1,hK1⟩).mono ?_
   · rintro i x W hx ⟨hi,hl,hk⟩
     have hy:=run_yield (P:=P) (args:=encs i x) hl (by rw [hrc];exact hps i x)
     rw [hrc] at hy
     refine ⟨fn,_,assign,body,hy,roundIn_of_wpIn hfn (hassign _ i x W _ hx hi ?_)⟩
     clear hy
     intro a' Wa hkfa hkpa hia hax
     have hla:=hkfa.same _ _ (by omega) hl rfl
     have hka:=hkfa.same _ _ (Nat.le_refl _) hk rfl
     have hlt:w.heap.size+1<Wa.heap.size:=(Array.getElem?_eq_some_iff.1 hla).1
     refine ⟨_,run_beginRound hla (by rw [hrc]),?_⟩
     have hl2:(Wa.putObj (w.heap.size+1) (.loop { rc .ready none with state:=.busy })).heap[w.heap.size+1]?=some (.loop { rc .ready none with state:=.busy }):=World.putObj_heap_same hlt
     have hk2:(Wa.putObj (w.heap.size+1) (.loop { rc .ready none with state:=.busy })).heap[w.heap.size]?=some (.deferred (some [])):=(World.putObj_heap_other (by omega)).trans hka
     have hw2:KeepC L Wa (Wa.putObj (w.heap.size+1) (.loop { rc .ready none with state:=.busy })):=KeepC.put _ _ _ _ hla rfl
     refine wpIn_mono (hbody _ i x a' _ hx (hI.putObj _ hia (by omega) hla rfl) ((hAx i x a').putObj (s:=()) _ hax (by omega) hla rfl)) ?_
     have fin:∀ (jump:Option Code) (W3:World),KeepsFrom w.heap.size (Wa.putObj (w.heap.size+1) (.loop { rc .ready none with state:=.busy })) W3 →
         (Instr.endRound (w.heap.size+1) jump).run P W3=.ok (.bool jump.isNone) (W3.putObj (w.heap.size+1) (.loop (rc (if jump.isNone then .ready else .done) jump))) ∧
         W3.heap[w.heap.size+1]?=some (.loop { rc .ready none with state:=.busy }) ∧
         (W3.putObj (w.heap.size+1) (.loop (rc (if jump.isNone then .ready else .done) jump))).heap[w.heap.size+1]?=some (.loop (rc (if jump.isNone then .ready else .done) jump)) ∧
         (W3.putObj (w.heap.size+1) (.loop (rc (if jump.isNone then .ready else .done) jump))).heap[w.heap.size]?=some (.deferred (some [])):=fun jump W3 hk3=>by
       have hl3:=hk3.same _ _ (by omega) hl2 rfl
       have:=run_endRound (P:=P) jump hl3
       rw [hrc] at this ⊢
       exact ⟨this,by rw [hrc] at hl3;exact hl3,World.putObj_heap_same (Array.getElem?_eq_some_iff.1 hl3).1,(World.putObj_heap_other (by omega)).trans (hk3.same _ _ (Nat.le_refl _) hk2 rfl)⟩
     rintro e a3 W3 hp
     cases e with
     | normal =>
       obtain ⟨hk3,hkp3,hi3⟩:=hp
       obtain ⟨hr,hl3,hl4,hk4⟩:=fin none W3 hk3
       exact ⟨_,_,hr,.inl ⟨rfl,⟨hI.putObj _ hi3 (by omega) hl3 rfl,hl4,hk4⟩,hkpa.trans ((hw2.trans hkp3).trans (KeepC.put _ _ _ _ hl3 rfl))⟩⟩
     | ret =>
       obtain ⟨hk3,hi3⟩:=hp
       obtain ⟨hr,hl3,hl4,hk4⟩:=fin (some .ret) W3 hk3
       exact ⟨_,_,hr,.inr ⟨rfl,.ret,(hIx _).putObj _ hi3 (by omega) hl3 rfl,hl4,hk4⟩⟩
     | exit id =>
       obtain ⟨hk3,hi3⟩:=hp
       obtain ⟨hr,hl3,hl4,hk4⟩:=fin (some (.exit id)) W3 hk3
       exact ⟨_,_,hr,.inr ⟨rfl,.exit id,(hIx _).putObj _ hi3 (by omega) hl3 rfl,hl4,hk4⟩⟩
     | goto t=>exact hp.elim
     | panic ch=>exact hp.elim
     | outgrown=>exact hp.elim
   · rintro e W2 ⟨⟨v,rfl⟩,(⟨hi,hl,hk⟩|⟨i,c,hi,hl,hk⟩)⟩
     · exact ⟨none,_,by have:=run_endLoop (P:=P) hl (by rw [hrc];simp);rw [hrc] at this;exact this,hdone _ _ (Nat.le_refl _) (hI.putObj _ hi (by omega) hl rfl) ((World.putObj_heap_other (by omega)).trans hk)⟩
     · exact ⟨some c,_,by have:=run_endLoop (P:=P) hl (by rw [hrc];simp);rw [hrc] at this;exact this,hstop _ c i _ (Nat.le_refl _) ((hIx c).putObj _ hi (by omega) hl rfl) ((World.putObj_heap_other (by omega)).trans hk)⟩
theorem range_f{α:Type}{P:Program}{g:Operand}{ps:Array Tmp}{assign body:Code}{Q:Exit→Act→World→Prop}{a:Act}{w:World}
   {gf:Nat} {fb lb:Array Value} (hg:a.eval g=.func (.func gf) fb lb) (eg:∀ args w,(callFunc gf args).run P w=.ok (.enter gf args) w)
   {encs:Nat→α→Array Value} {xs:List α} {L:List Nat} (hseq:SeqF P gf fb lb encs xs L w) (hps:∀ i x,(encs i x).size=ps.size)
   (I:Nat→World→Prop) (Ix:Code→Nat→World→Prop) (hI:OwnFrom w.heap.size I) (hIx:∀ c,OwnFrom w.heap.size (Ix c)) (h0:I 0 w)
   (Ax:Nat→α→Act→World→Prop) (hAx:∀ i x a',OwnFrom w.heap.size (fun (_:Unit) W=>Ax i x a' W))
   (hassign:∀ (l i:Nat) (x:α) (W:World) (K:Act→World→Prop),xs[i]?=some x→I i W→(∀ a' W',KeepsFrom w.heap.size W W'→KeepC L W W'→I i W'→Ax i x a' W'→K a' W') →
     assign.wpIn (Fence.wide.inRound l) 4 P (Exit.then K (fun _ _ _=>False)) { tmps:=(ps.zip (encs i x)).foldl (fun t (p,v)=>t.setIfInBounds p v) a.tmps,defers:=[] } W)
   (hbody:∀ (l i:Nat) (x:α) (a':Act) (W:World),xs[i]?=some x→I i W→Ax i x a' W→body.wpIn (Fence.wide.inRound l) 4 P (bodyX w.heap.size L I Ix i W) a' W)
   (hdone:∀ (D:Nat) (W:World),w.heap.size≤D→I xs.length W→W.heap[D]?=some (.deferred (some []))→Q .normal { a with defers:={ target:=.collected D,args:=#[] } :: a.defers } W)
   (hstop:∀ (D:Nat) (c:Code) (i:Nat) (W:World),w.heap.size≤D→Ix c i W→W.heap[D]?=some (.deferred (some []))→c.wpIn Fence.wide 6 P Q { a with defers:={ target:=.collected D,args:=#[] } :: a.defers } W) :
   (Code.rangeFunc g ps assign body).wpIn Fence.wide 6 P Q a w:=by
 refine wpIn_rangeFunc ?_
 intro fn hfn
 obtain ⟨rc,hrc⟩:∃ rc:LoopState→Option Code→Loop,rc=fun st pe=>{ state:=st,pending:=pe,fn,tmps:=a.tmps,params:=ps,assign,body,defers:=w.heap.size }:=⟨_,rfl⟩
 obtain ⟨W1,hW1⟩:∃ W1,(w.alloc (.deferred (some []))).alloc (.loop (rc .ready none))=W1:=⟨_,rfl⟩
 have hL1:W1.heap[w.heap.size+1]?=some (.loop (rc .ready none)):=by rw [← hW1];exact heap_at (by simp)
 have hK1:W1.heap[w.heap.size]?=some (.deferred (some [])):=by rw [← hW1];exact (Below.heap_alloc _ _ _ (by simp)).trans (heap_at rfl)
 have hI1:I 0 W1:=by rw [← hW1];exact hI.alloc _ (hI.alloc _ h0)
 have hb1:Below w.heap.size w W1:=by rw [← hW1];exact ((Below.refl _ w).alloc (Nat.le_refl _) _).alloc (by simp) _
 have hIb:Abides I:=fun i A B hA hB=>hI i A B none hA (below_grown hB) (fun r e=>by cases e)
 have hIxb:∀ c,Abides (Ix c):=fun c i A B hA hB=>hIx c i A B none hA (below_grown hB) (fun r e=>by cases e)
 refine ⟨w.heap.size+1,[{ target:=.collected w.heap.size,args:=#[] }],W1,{ target:=.fn (.func gf) lb,args:=fb++#[.func (.yield (w.heap.size+1)) #[] #[]] },W1,gf,
   fb++#[.func (.yield (w.heap.size+1)) #[] #[]]++lb,W1,?_,?_,?_,?_,fun _=>by decide,?_⟩
 · rw [← hW1,hrc];exact run_enterLoop_outer _ _ _ _ _
 · simp only [resolve,hg]
   simp [go_sem]
 · intro f' _;trivial
 · simp [invoke,go_sem,eg]
 · have keep:∀ {A B:World} {k:Nat} {o:Obj},Below A.heap.size A B→A.heap[k]?=some o→B.heap[k]?=some o:=fun hb hk=>(hb.block _ (Array.getElem?_eq_some_iff.1 hk).1).trans hk
   refine (hseq (w.heap.size+1)
     (fun i W=>I i W∧W.heap[w.heap.size+1]?=some (.loop (rc .ready none))∧W.heap[w.heap.size]?=some (.deferred (some [])))
     (fun i W=>∃ c,Ix c i W∧W.heap[w.heap.size+1]?=some (.loop (rc .done (some c)))∧W.heap[w.heap.size]?=some (.deferred (some [])))
     W1 hb1
     (fun i A B hs hb=>⟨hIb i A B hs.1 hb,keep hb hs.2.1,keep hb hs.2.2⟩)
     (fun i A B hs hb=>by obtain ⟨c,h1,h2,h3⟩:=hs;exact ⟨c,hIxb c i A B h1 hb,keep hb h2,keep hb h3⟩)
     ?_ ⟨hI1,hL1,hK1⟩).mono ?_
   · rintro i x W hx ⟨hi,hl,hk⟩
     have hy:=run_yield (P:=P) (args:=encs i x) hl (by rw [hrc];exact hps i x)
     rw [hrc] at hy
     refine ⟨fn,_,assign,body,hy,roundIn_of_wpIn hfn (hassign _ i x W _ hx hi ?_)⟩
     clear hy
     intro a' Wa hkfa hkpa hia hax
     have hla:=hkfa.same _ _ (by omega) hl rfl
     have hka:=hkfa.same _ _ (Nat.le_refl _) hk rfl
     have hlt:w.heap.size+1<Wa.heap.size:=(Array.getElem?_eq_some_iff.1 hla).1
     refine ⟨_,run_beginRound hla (by rw [hrc]),?_⟩
     have hl2:(Wa.putObj (w.heap.size+1) (.loop { rc .ready none with state:=.busy })).heap[w.heap.size+1]?=some (.loop { rc .ready none with state:=.busy }):=World.putObj_heap_same hlt
     have hk2:(Wa.putObj (w.heap.size+1) (.loop { rc .ready none with state:=.busy })).heap[w.heap.size]?=some (.deferred (some [])):=(World.putObj_heap_other (by omega)).trans hka
     have hw2:KeepC L Wa (Wa.putObj (w.heap.size+1) (.loop { rc .ready none with state:=.busy })):=KeepC.put _ _ _ _ hla rfl
     refine wpIn_mono (hbody _ i x a' _ hx (hI.putObj _ hia (by omega) hla rfl) ((hAx i x a').putObj (s:=()) _ hax (by omega) hla rfl)) ?_
     have fin:∀ (jump:Option Code) (W3:World),KeepsFrom w.heap.size (Wa.putObj (w.heap.size+1) (.loop { rc .ready none with state:=.busy })) W3 →
         (Instr.endRound (w.heap.size+1) jump).run P W3=.ok (.bool jump.isNone) (W3.putObj (w.heap.size+1) (.loop (rc (if jump.isNone then .ready else .done) jump))) ∧
         W3.heap[w.heap.size+1]?=some (.loop { rc .ready none with state:=.busy }) ∧
         (W3.putObj (w.heap.size+1) (.loop (rc (if jump.isNone then .ready else .done) jump))).heap[w.heap.size+1]?=some (.loop (rc (if jump.isNone then .ready else .done) jump)) ∧
         (W3.putObj (w.heap.size+1) (.loop (rc (if jump.isNone then .ready else .done) jump))).heap[w.heap.size]?=some (.deferred (some [])):=fun jump W3 hk3=>by
       have hl3:=hk3.same _ _ (by omega) hl2 rfl
       have:=run_endRound (P:=P) jump hl3
       rw [hrc] at this ⊢
       exact ⟨this,by rw [hrc] at hl3;exact hl3,World.putObj_heap_same (Array.getElem?_eq_some_iff.1 hl3).1,(World.putObj_heap_other (by omega)).trans (hk3.same _ _ (Nat.le_refl _) hk2 rfl)⟩
     rintro e a3 W3 hp
     cases e with
     | normal =>
       obtain ⟨hk3,hkp3,hi3⟩:=hp
       obtain ⟨hr,hl3,hl4,hk4⟩:=fin none W3 hk3
       exact ⟨_,_,hr,.inl ⟨rfl,⟨hI.putObj _ hi3 (by omega) hl3 rfl,hl4,hk4⟩,hkpa.trans ((hw2.trans hkp3).trans (KeepC.put _ _ _ _ hl3 rfl))⟩⟩
     | ret =>
       obtain ⟨hk3,hi3⟩:=hp
       obtain ⟨hr,hl3,hl4,hk4⟩:=fin (some .ret) W3 hk3
       exact ⟨_,_,hr,.inr ⟨rfl,.ret,(hIx _).putObj _ hi3 (by omega) hl3 rfl,hl4,hk4⟩⟩
     | exit id =>
       obtain ⟨hk3,hi3⟩:=hp
       obtain ⟨hr,hl3,hl4,hk4⟩:=fin (some (.exit id)) W3 hk3
       exact ⟨_,_,hr,.inr ⟨rfl,.exit id,(hIx _).putObj _ hi3 (by omega) hl3 rfl,hl4,hk4⟩⟩
     | goto t=>exact hp.elim
     | panic ch=>exact hp.elim
     | outgrown=>exact hp.elim
   · rintro e W2 ⟨⟨v,rfl⟩,(⟨hi,hl,hk⟩|⟨i,c,hi,hl,hk⟩)⟩
     · exact ⟨none,_,by have:=run_endLoop (P:=P) hl (by rw [hrc];simp);rw [hrc] at this;exact this,hdone _ _ (Nat.le_refl _) (hI.putObj _ hi (by omega) hl rfl) ((World.putObj_heap_other (by omega)).trans hk)⟩
     · exact ⟨some c,_,by have:=run_endLoop (P:=P) hl (by rw [hrc];simp);rw [hrc] at this;exact this,hstop _ c i _ (Nat.le_refl _) ((hIx c).putObj _ hi (by omega) hl rfl) ((World.putObj_heap_other (by omega)).trans hk)⟩
def Blk(W:World)(b:Nat)(t:TypeId)(c:Array Value):Prop:=W.heap[b]?=some (Obj.cells c t (0,0))
theorem Blk.lt{W:World}{b:Nat}{t:TypeId}{c:Array Value}(h:Blk W b t c):b<W.heap.size:=(Array.getElem?_eq_some_iff.1 h).1
theorem Blk.cell{W:World}{b:Nat}{t:TypeId}{c:Array Value}(o:Nat)(h:Blk W b t c):W.cell? ⟨b,o,none⟩=c[o]?:=by
 unfold Blk at h;simp [World.cell?,h]
theorem Blk.free{W:World}{b:Nat}{t:TypeId}{c:Array Value}(o:Nat)(h:Blk W b t c):W.frozen? ⟨b,o,none⟩=false:=by
 unfold Blk at h;simp [World.frozen?,h]
theorem Blk.below{W W':World}{b n:Nat}{t:TypeId}{c:Array Value}(h:Blk W b t c)(hb:Below n W W')(hn:b<n):Blk W' b t c:=(hb.block b hn).trans h
theorem Blk.later{W W':World}{b:Nat}{t:TypeId}{c:Array Value}(h:Blk W b t c)(hb:Below W.heap.size W W'):Blk W' b t c:=h.below hb h.lt
theorem Blk.keep{W W':World}{L:List Nat}{b:Nat}{t:TypeId}{c:Array Value}(h:Blk W b t c)(hk:KeepC L W W')(hn:b ∉ L)(ht:itT t:=by first|exact .inl rfl|exact .inr (.inl rfl)|exact .inr (.inr (.inl rfl))|exact .inr (.inr (.inr rfl))):Blk W' b t c:=hk.same b c t hn ht h
theorem Blk.new(W:World)(t:TypeId)(c:Array Value):Blk (W.alloc (.cells c t)) W.heap.size t c:=heap_at rfl
theorem Blk.alloc{W:World}{b:Nat}{t:TypeId}{c:Array Value}(h:Blk W b t c)(o:Obj):Blk (W.alloc o) b t c:=(Below.heap_alloc _ _ _ h.lt).trans h
theorem Blk.set{W:World}{b:Nat}{t:TypeId}{c:Array Value}(o:Nat)(v:Value)(h:Blk W b t c):Blk (W.setCell ⟨b,o,none⟩ v) b t (c.setIfInBounds o v):=by
 unfold Blk at *;simp [World.setCell,Array.getElem?_modify,h]
theorem Blk.setOther{W:World}{b b':Nat}{t:TypeId}{c:Array Value}(o:Nat)(v:Value)(h:Blk W b t c)(hne:b≠b'):Blk (W.setCell ⟨b',o,none⟩ v) b t c:=(Below.heap_setCell _ _ _ _ hne).trans h
theorem facts1{W:World}{b:Nat}{t:TypeId}{c0:Value}(h:Blk W b t #[c0]):W.cell? ⟨b,0,none⟩=some c0∧W.frozen? ⟨b,0,none⟩=false:=⟨h.cell 0,h.free 0⟩
theorem own_below{β:Type}(B:Nat)(w0:World)(hB:w0.heap.size≤B):OwnFrom B (fun (_:β) W=>Below w0.heap.size w0 W):=fun _ X Y row hs hg hr =>
 ⟨hg.os.trans hs.os,hg.tape.trans hs.tape,hg.output.trans hs.output,Nat.le_trans hs.size hg.size,fun k hk=>(hg.block k (Nat.lt_of_lt_of_le hk hs.size) (fun e=>by have:=(hr k e.symm).1;omega)).trans (hs.block k hk)⟩
theorem own_blk{β:Type}(B b:Nat)(t:TypeId)(c:β→Array Value):OwnFrom B (fun s W=>Blk W b t (c s)):=fun s X Y row hs hg hr =>
 (hg.block b hs.lt (fun e=>by obtain ⟨_,o,ho,hc⟩:=hr b e.symm;rw [show X.heap[b]?=_ from hs] at ho;cases ho;cases hc)).trans hs
theorem own_pure{β:Type}(B:Nat)(q:β→Prop):OwnFrom B (fun s (_:World)=>q s):=fun _ _ _ _ h _ _=>h
theorem leave{fn:Func}{R:Ending→World→Prop}{a:Act}{W:World}{D:Nat}{v:Value}(hd:a.defers=[{ target:=.collected D,args:=#[] }])(hD:W.heap[D]?=some (.deferred (some [])))
   (hr:(results fn a.tmps).run Tryz.prog (W.putObj D (.deferred none))=.ok v (W.putObj D (.deferred none))) (hR:R (.returned v) (W.putObj D (.deferred none))):bodyPostM Fence.wide 6 Tryz.prog fn R .ret a W:=by
 obtain ⟨tmps,ds⟩:=a
 simp only at hd
 subst hd
 exact ⟨by simp,.inl ⟨_,_,rfl,run_takeDeferred hD,⟨v,hr,hR⟩⟩⟩
theorem below_put{w W:World}{D:Nat}(hb:Below w.heap.size w W)(hn:w.heap.size≤D)(o:Obj):Below w.heap.size w (W.putObj D o) :=
 hb.trans ⟨rfl,rfl,rfl,by simp [World.putObj],fun k hk=>World.putObj_heap_other (by omega)⟩
def sizeL:List Nat:=[4,8,16,32,64,128,256,512,1024,2048,4096,8192,16384,32768,65536]
def encN(_:Nat)(x:Nat):Array Value:=#[.int .i64 x]
def sizeN(i:Nat):Nat:=sizeL.getD i 131072
theorem sizeN_facts:∀ i:Fin 15,sizeL[i.val]?=some (sizeN i.val)∧sizeN i.val≤65536∧4≤sizeN i.val∧sizeN (i.val+1)=2*sizeN i.val:=by decide +kernel
theorem sizes_any(L:List Nat)(w:World):SeqX Tryz.prog 240 #[] encN sizeL L w:=by
 intro l J Jx W hW hJ hJx hY hJ0
 refine callsIn_of_wp Tryz.func240 rfl trivial ?_ rfl
 simp only [Tryz.ntmps240,List.size_toArray,List.length_cons,List.length_nil,Nat.reduceAdd,Nat.reduceSub,Array.replicate_succ,Array.replicate_zero,List.push_toArray,List.append_toArray,List.nil_append,List.cons_append,List.append_nil]
 have HY:=Lib.hid hY
 clear hY
 gi_wp2
 gi_loopw [2] (fun s wr=>∃ (i:Nat),s=.int .i64 (sizeN i)∧i≤15∧J i wr)
   (fun s _=>131072-(intOf s).toNat)
 case atStart=>exact ⟨0,rfl,by omega,hJ0⟩
 case round =>
   obtain ⟨i,rfl,hi,hJi⟩:=hrel
   by_cases hlt:i<15
   · obtain ⟨hx,h1,h2,h3⟩:=sizeN_facts ⟨i,hlt⟩
     simp only at hx h1 h2 h3
     have HN:=Lib.hid h3
     have H2:=Lib.hid h2
     clear h3 h2
     obtain ⟨fn,tmps,assign,body,hy,hR⟩:=HY.out i _ wr hx hJi
     unfold encN at hy
     generalize hs:sizeN i=s at *
     have hs2:=Lib.hid hs
     clear hs
     have h1':(s:Int)≤65536:=by omega
     gi_wp2_with fail
     (try refine ⟨fun _=>by decide,?_⟩)
     refine hR.mono ?_
     rintro e W3 (⟨rfl,hJ3,hk3⟩|⟨rfl,hJx3⟩)
     · clear hR hy
       gi_wp2
       have e1:=hs2.out
       have e2:=HN.out
       have e3:=H2.out
       refine ⟨⟨i+1,by rw [e2];congr 1;omega,hlt,hJ3⟩,?_⟩
       simp only [intOf]
       omega
     · gi_wp2
       go_end0
       exact ⟨⟨_,rfl⟩,.inr ⟨_,hJx3⟩⟩
   · obtain rfl:i=15:=by omega
     have h15:sizeN 15=131072:=by decide +kernel
     generalize sizeN 15=s at *
     have h1':¬ ((s:Int)≤65536):=by omega
     clear h15
     gi_wp2
     refine ⟨fun _ h=>(by cases h),?_⟩
     gi_wp2
     go_end0
     exact ⟨⟨_,rfl⟩,.inl hJi⟩
def encB(_:Nat)(b:UInt8):Array Value:=#[.int .u8 b.toNat]
theorem bytes_any(p:ByteArray)(hp:p.size≤281474976710656)(B:Nat)(L:List Nat)(w:World)(hL:B ∉ L)(h0:Blk w B 9 #[.string p]) :
   SeqX Tryz.prog 241 #[.pointer (some ⟨B,0,none⟩)] encB p.data.toList L w:=by
 intro l J Jx W hW hJ hJx hY hJ0
 have k0:=h0.later hW
 refine callsIn_of_wp Tryz.func241 rfl trivial ?_ rfl
 simp only [Tryz.ntmps241,List.size_toArray,List.length_cons,List.length_nil,Nat.reduceAdd,Nat.reduceSub,Array.replicate_succ,Array.replicate_zero,List.push_toArray,List.append_toArray,List.nil_append,List.cons_append]
 have HY:=Lib.hid hY
 clear hY
 gi_wp2
 gi_loopw [3] (fun s wr=>∃ (i:Nat),s=.int .i64 i∧i≤p.size∧J i wr∧Blk wr B 9 #[.string p])
   (fun s _=>p.size-(intOf s).toNat)
 case atStart=>exact ⟨0,rfl,by omega,hJ0,k0⟩
 case round =>
   clear k0
   obtain ⟨i,rfl,hi,hJi,k0⟩:=hrel
   obtain ⟨a0,b0⟩:=facts1 k0
   by_cases hlt:i<p.size
   · have hx:p.data.toList[i]?=some p[i]:=by
       rw [List.getElem?_eq_getElem (by rw [Array.length_toList];exact hlt),Array.getElem_toList];rfl
     obtain ⟨fn,tmps,assign,body,hy,hR⟩:=HY.out i _ wr hx hJi
     unfold encB at hy
     gi_wp2_with fail
     (try refine ⟨fun _=>by decide,?_⟩)
     refine hR.mono ?_
     rintro e W3 (⟨rfl,hJ3,hk3⟩|⟨rfl,hJx3⟩)
     · have k13:=k0.keep hk3 hL
       clear hR hy
       gi_wp2
       refine ⟨⟨i+1,by go_num,hlt,hJ3,k13⟩,?_⟩
       simp only [intOf]
       omega
     · gi_wp2
       go_end0
       exact ⟨⟨_,rfl⟩,.inr ⟨_,hJx3⟩⟩
   · obtain rfl:i=p.size:=by omega
     gi_wp2
     refine ⟨fun _ h=>(by cases h),?_⟩
     gi_wp2
     go_end0
     exact ⟨⟨_,rfl⟩,.inl (by rw [Array.length_toList];exact hJi)⟩
def fit(n:Int)(l:List Nat):Nat:=(l.find? (fun (x:Nat)=>decide (n≤((x:Nat):Int)))).getD 65536
def sizeS(n:Int):Nat:=fit n sizeL
theorem fit_here(n:Int)(i x:Nat)(hx:sizeL[i]?=some x)(h:n≤x):fit n (sizeL.drop i)=x:=by
 obtain ⟨hi,he⟩:=List.getElem?_eq_some_iff.1 hx
 unfold fit
 rw [List.drop_eq_getElem_cons hi,he,List.find?_cons_of_pos (by simpa using h)]
 rfl
theorem fit_on(n:Int)(i x:Nat)(hx:sizeL[i]?=some x)(h:¬ n≤x):fit n (sizeL.drop i)=fit n (sizeL.drop (i+1)):=by
 obtain ⟨hi,he⟩:=List.getElem?_eq_some_iff.1 hx
 unfold fit
 rw [List.drop_eq_getElem_cons hi,he,List.find?_cons_of_neg (by simpa using h)]
theorem sizeFor_any(n:Int)(w:World):Calls Tryz.prog 217 #[.int .i64 n] w fun e w'=>e=.returned (.int .i64 (sizeS n))∧Below w.heap.size w w':=by
 refine (callsIn_wide (n:=6)).1 (callsIn_of_wp_marks Tryz.func217 rfl trivial ?_ rfl)
 refine wpIn_wide.2 ?_
 simp only [Tryz.ntmps217,List.size_toArray,List.length_cons,List.length_nil,Nat.reduceAdd,Nat.reduceSub,Array.replicate_succ,Array.replicate_zero,List.push_toArray,List.append_toArray,List.nil_append,List.cons_append]
 go_wp2
 refine wp_scope_straight ?_
 go_wp2
 refine wp_label ?_
 go_wp2
 have k1:=(Blk.new w 3 #[Value.int IntKind.i64 n]).alloc (Obj.cells #[Value.int IntKind.i64 65536] 3)
 have k2:=Blk.new (w.alloc (Obj.cells #[Value.int IntKind.i64 n] 3)) 3 #[Value.int IntKind.i64 65536]
 rw [World.size_alloc] at k2
 have hB:=((Below.refl w.heap.size w).alloc (Nat.le_refl _) (Obj.cells #[Value.int IntKind.i64 n] 3)).alloc (by simp) (Obj.cells #[Value.int IntKind.i64 65536] 3)
 have hsz:((w.alloc (Obj.cells #[Value.int IntKind.i64 n] 3)).alloc (Obj.cells #[Value.int IntKind.i64 65536] 3)).heap.size=w.heap.size+2:=by simp
 generalize ((w.alloc (Obj.cells #[Value.int IntKind.i64 n] 3)).alloc (Obj.cells #[Value.int IntKind.i64 65536] 3))=w1 at *
 refine (wpIn_wide (n:=6)).1 (range_x (gf:=240) (lb:=#[]) (encs:=encN) (xs:=sizeL) (L:=[w.heap.size+1]) rfl (enters_of Tryz.func240 (by kernel_rfl) rfl) (sizes_any _ _) (fun _ _=>rfl)
   (fun i W=>Below w.heap.size w W∧Blk W w.heap.size 3 #[.int .i64 n]∧Blk W (w.heap.size+1) 3 #[Value.int IntKind.i64 65536]∧sizeS n=fit n (sizeL.drop i))
   (fun c _ W=>match c with
     | .exit id=>id=0∧Below w.heap.size w W∧Blk W (w.heap.size+1) 3 #[.int .i64 (sizeS n)]
     | _=>False)
   ?hI ?hIx ?h0 (fun i x a' W=>a'={ tmps:=#[Value.int IntKind.i64 n,Value.pointer (some { block:=w.heap.size,off:=0 }),Value.int IntKind.i64 0,
         Value.pointer (some { block:=w.heap.size+1,off:=0 }),Value.int IntKind.i64 x,Value.int IntKind.i64 x,undef,undef,undef,undef,undef],defers:=[] })
   (fun _ _ _=>own_pure _ _) ?assign ?body ?done ?stop)
 case hI=>exact (own_below _ w (by omega)).and ((own_blk _ _ _ _).and ((own_blk _ _ _ _).and (own_pure _ _)))
 case hIx =>
   intro c
   cases c with
   | exit id=>exact (own_pure _ _).and ((own_below _ w (by omega)).and (own_blk _ _ _ _))
   | _=>exact own_pure _ _
 case h0=>exact ⟨hB,k1,k2,rfl⟩
 case assign =>
   rintro l i x W K hx' ⟨hb,q1,q2,hgd⟩ hK
   unfold encN
   gi_wp2
   exact hK _ _ (KeepsFrom.refl _ _) (KeepC.refl _ _) ⟨hb,q1,q2,hgd⟩ rfl
 case body =>
   rintro l i x a' W hx' ⟨hb,q1,q2,hgd⟩ rfl
   obtain ⟨c1,c2⟩:=facts1 q1
   obtain ⟨d1,d2⟩:=facts1 q2
   have Q2:=Lib.hid q2
   have HG:=Lib.hid hgd
   clear hgd q2 k1 k2
   by_cases hik:n≤(x:Int)
   · have hs:sizeS n=x:=HG.out.trans (fit_here n i x hx' hik)
     have HS:=Lib.hid hs
     clear hs
     gi_wp2
     refine ⟨(KeepsOthers.setCell _ _ _).from _,rfl,hb.setCell (p:=⟨w.heap.size+1,0,none⟩) (Nat.le_succ _) _,?_⟩
     rw [HS.out]
     exact Q2.out.set 0 _
   · gi_wp2
     refine ⟨KeepsFrom.refl _ _,KeepC.refl _ _,hb,q1,Q2.out,HG.out.trans (fit_on n i x hx' (by omega))⟩
 case done =>
   rintro D W hD ⟨hb,q1,q2,hgd⟩ hK
   obtain ⟨d1,d2⟩:=facts1 q2
   have hs:sizeS n=65536:=hgd
   have HS:=Lib.hid hs
   have HK:=Lib.hid hK
   clear hK q1 q2 hgd hs k1 k2
   simp only [Exit.inBlock,Exit.then]
   go_wp2
   exact leave (v:=.int .i64 65536) rfl HK.out (by simp [results,Tryz.results217,go_sem]) ⟨by rw [HS.out];rfl,below_put hb (by omega) _⟩
 case stop =>
   rintro D c j W hD hI hK
   cases c with
   | exit id =>
     obtain ⟨rfl,hb,q2⟩:=hI
     obtain ⟨d1,d2⟩:=facts1 q2
     have HK:=Lib.hid hK
     clear hK q2 k1 k2
     refine wpIn_wide.2 ?_
     go_wp2
     exact leave rfl HK.out (by simp [results,Tryz.results217,go_sem]) ⟨rfl,below_put hb (by omega) _⟩
   | _=>exact hI.elim
def isS(n:Int):Bool:=decide ((sizeS n:Int)=n)
theorem isSize_any(n:Int)(w:World):Calls Tryz.prog 213 #[.int .i64 n] w fun e w'=>e=.returned (.bool (isS n))∧Below w.heap.size w w':=by
 unfold isS
 go_enter Tryz.func213,Tryz.ntmps213
 go_wp2_with fail
 refine (sizeFor_any n _).mono ?_
 rintro e w1 ⟨rfl,hb1⟩
 go_wp2
 go_ret
 exact ⟨rfl,hb1⟩
def slotS(sum:Nat)(n:Int):Value:=if isS n then .tuple #[.int .i64 ((sum:Int) % n),.int .i64 0] else .tuple #[.int .i64 0,.int .i64 2]
theorem isS_pos{n:Int}(h:isS n=true):4≤n∧n≤65536:=by
 have h1:∀ l:List Nat,(∀ x∈l,4≤x∧x≤65536)→4≤fit n l∧fit n l≤65536:=fun l hl=>by
   unfold fit
   cases h:l.find? (fun (x:Nat)=>decide (n≤(x:Int))) with
   | none=>simp
   | some x=>exact hl x (List.mem_of_find?_eq_some h)
 have h2:=h1 sizeL (by decide)
 unfold isS sizeS at h
 have:=of_decide_eq_true h
 omega
theorem slot_any(sum:Nat)(hs:sum<4294967296)(n:Int)(w:World):Calls Tryz.prog 194 #[.int .u32 sum,.int .i64 n] w fun e w'=>e=.returned (slotS sum n)∧Below w.heap.size w w':=by
 by_cases h:isS n=true
 · have hp:=isS_pos h
   unfold slotS
   rw [if_pos h]
   have HI:=fun w=>isSize_any n w
   rw [h] at HI
   have HP:=fun w=>Lib.hid (HI w)
   clear HI
   have g1:(0:Int)≤(sum:Int):=by omega
   have g2:(sum:Int)≤4294967295:=by omega
   have g3:(0:Int)≤(sum:Int) % n:=Int.emod_nonneg _ (by omega)
   have g4:(sum:Int) % n<n:=Int.emod_lt_of_pos _ (by omega)
   clear h
   go_enter Tryz.func194,Tryz.ntmps194
   go_wp2_with fail
   refine wp_scope_straight ?_
   go_wp2_with fail
   refine (HP _).out.mono ?_
   rintro e w1 ⟨rfl,hb1⟩
   go_wp2
   simp only [Exit.noGoto]
   go_ret2
   exact ⟨rfl,hb1⟩
 · have h':isS n=false:=by cases hh:isS n <;> simp_all
   unfold slotS
   rw [if_neg h]
   have HI:=fun w=>isSize_any n w
   rw [h'] at HI
   have HP:=fun w=>Lib.hid (HI w)
   clear HI h h'
   go_enter Tryz.func194,Tryz.ntmps194
   go_wp2_with fail
   refine wp_scope_jumps 0 (fun a' w'=>Below w.heap.size w w'∧a'={ tmps:=#[Value.int IntKind.u32 sum,Value.int IntKind.i64 n,undef,undef,Value.int IntKind.i64 0,
           Value.int IntKind.i64 0,Value.int IntKind.i64 n,Value.bool false,Value.bool true,undef,undef,undef,undef,undef],defers:=[] }) (fun _ _=>0) rfl ?_ ?_
   · go_wp2_with fail
     refine (HP _).out.mono ?_
     rintro e w1 ⟨rfl,hb1⟩
     go_wp2
     go_step3
     exact ⟨rfl,hb1,rfl⟩
   · rintro a' w' ⟨hb,rfl⟩
     go_wp2
     simp only [Exit.jump]
     go_ret2
     exact ⟨rfl,hb⟩
def roundN(h b:Nat):Nat:=(h ^^^ b)*16777619 % 4294967296
def endX(h:Nat):Nat:=h ^^^ h / 32768
def endA(h:Nat):Nat:=endX h*2246822519 % 4294967296
def endB(h:Nat):Nat:=h ^^^ h / 8192
def endN(h:Nat):Nat:=endB (endA h)
def beginN(seed:Nat):Nat:=seed ^^^ 2166136261
def foldN(h:Nat)(l:List UInt8):Nat:=l.foldl (fun h b=>roundN h b.toNat) h
def sumN(seed:Nat)(l:List UInt8):Nat:=endN (foldN (beginN seed) l)
theorem xor_lt32{a b:Nat}(ha:a<4294967296)(hb:b<4294967296):a ^^^ b<4294967296:=Nat.xor_lt_two_pow (n:=32) ha hb
theorem roundN_lt(h b:Nat):roundN h b<4294967296:=Nat.mod_lt _ (by decide)
theorem beginN_lt{s:Nat}(h:s<4294967296):beginN s<4294967296:=xor_lt32 h (by decide)
theorem endA_lt(h:Nat):endA h<4294967296:=Nat.mod_lt _ (by decide)
theorem endB_lt{h:Nat}(hh:h<4294967296):endB h<4294967296:=xor_lt32 hh (by omega)
theorem endX_lt{h:Nat}(hh:h<4294967296):endX h<4294967296:=xor_lt32 hh (by omega)
theorem sumN_lt(s:Nat)(l:List UInt8):sumN s l<4294967296:=by
 unfold sumN endN
 exact endB_lt (endA_lt _)
theorem foldN_step(h:Nat)(l:List UInt8)(i:Nat)(b:UInt8)(hb:l[i]?=some b):foldN h (l.take (i+1))=roundN (foldN h (l.take i)) b.toNat:=by
 obtain ⟨hi,he⟩:=List.getElem?_eq_some_iff.1 hb
 rw [List.take_succ_eq_append_getElem hi,he]
 unfold foldN
 rw [List.foldl_append,List.foldl_cons,List.foldl_nil]
theorem foldN_cons(h:Nat)(b:UInt8)(l:List UInt8):foldN h (b :: l)=foldN (roundN h b.toNat) l:=rfl
theorem foldN_nil(h:Nat):foldN h []=h:=rfl
theorem foldN_lt(l:List UInt8):∀ {h:Nat},h<4294967296→foldN h l<4294967296:=by
 induction l with
 | nil=>intro h hh;rw [foldN_nil];exact hh
 | cons b l ih=>intro h _;rw [foldN_cons];exact ih (roundN_lt _ _)
theorem bits_xor32(a b:Nat)(ha:a<4294967296)(hb:b<4294967296):bits .xor .u32 (a:Int) (b:Int)=((a ^^^ b:Nat):Int):=by
 have hx:=xor_lt32 ha hb
 unfold bits
 show IntKind.u32.wrap ((BitVec.ofInt 32 (a:Int) ^^^ BitVec.ofInt 32 (b:Int)).toNat:Int)=_
 rw [BitVec.ofInt_natCast,BitVec.ofInt_natCast,BitVec.toNat_xor,BitVec.toNat_ofNat,BitVec.toNat_ofNat,Nat.mod_eq_of_lt ha,Nat.mod_eq_of_lt hb,IntKind.wrap_u32]
 omega
theorem bytesOf_any(p:ByteArray)(w:World):Calls Tryz.prog 218 #[.string p] w fun e w'=>e=.returned (.func (.func 241) #[] #[.pointer (some ⟨w.heap.size,0,none⟩)])∧w'=w.alloc (Obj.cells #[.string p] 9):=by
 go_enter Tryz.func218,Tryz.ntmps218
 go_wp2
 go_ret
 exact ⟨rfl,rfl⟩
theorem sum_any(seed:Nat)(hs:seed<4294967296)(p:ByteArray)(hp:p.size≤281474976710656)(w:World) :
   Calls Tryz.prog 202 #[.int .u32 seed,.string p] w fun e w'=>e=.returned (.int .u32 (sumN seed p.data.toList))∧Below w.heap.size w w':=by
 refine (callsIn_wide (n:=6)).1 (callsIn_of_wp_marks Tryz.func202 rfl trivial ?_ rfl)
 refine wpIn_wide.2 ?_
 simp only [Tryz.ntmps202,List.size_toArray,List.length_cons,List.length_nil,Nat.reduceAdd,Nat.reduceSub,Array.replicate_succ,Array.replicate_zero,List.push_toArray,List.append_toArray,List.nil_append,List.cons_append]
 have hx:bits .xor .u32 (seed:Int) 2166136261=((beginN seed:Nat):Int):=bits_xor32 seed 2166136261 hs (by decide)
 go_wp2_with fail
 refine (bytesOf_any p _).mono ?_
 rintro e w1 ⟨rfl,rfl⟩
 go_wp2
 have k1:=(Blk.new w 24 #[Value.int IntKind.u32 (beginN seed)]).alloc (Obj.cells #[.string p] 9)
 have k2:=Blk.new (w.alloc (Obj.cells #[Value.int IntKind.u32 (beginN seed)] 24)) 9 #[.string p]
 rw [World.size_alloc] at k2
 have hB:=((Below.refl w.heap.size w).alloc (Nat.le_refl _) (Obj.cells #[Value.int IntKind.u32 (beginN seed)] 24)).alloc (by simp) (Obj.cells #[.string p] 9)
 have hsz:((w.alloc (Obj.cells #[Value.int IntKind.u32 (beginN seed)] 24)).alloc (Obj.cells #[.string p] 9)).heap.size=w.heap.size+2:=by simp
 generalize ((w.alloc (Obj.cells #[Value.int IntKind.u32 (beginN seed)] 24)).alloc (Obj.cells #[.string p] 9))=w1 at *
 refine (wpIn_wide (n:=6)).1 (range_x (gf:=241) (lb:=#[.pointer (some ⟨w.heap.size+1,0,none⟩)]) (encs:=encB) (xs:=p.data.toList) (L:=[w.heap.size]) rfl (enters_of Tryz.func241 (by kernel_rfl) rfl) (bytes_any p hp (w.heap.size+1) _ _ (by simp) k2) (fun _ _=>rfl)
   (fun i W=>Below w.heap.size w W∧Blk W w.heap.size 24 #[.int .u32 (foldN (beginN seed) (p.data.toList.take i))])
   (fun _ _ _=>False)
   ?hI ?hIx ?h0 (fun i x a' W=>a'={ tmps:=#[Value.int IntKind.u32 ↑seed,Value.string p,undef,undef,Value.int IntKind.u32 0,
         Value.pointer (some { block:=w.heap.size,off:=0 }),Value.int .u8 x.toNat,Value.int IntKind.u32 ↑seed,
         Value.int IntKind.u32 (beginN seed),Value.string p,
         Value.func (Fn.func 241) #[] #[Value.pointer (some { block:=w.heap.size+1,off:=0 })],Value.int .u8 x.toNat,undef,
         undef,undef,undef,undef,undef,undef,undef,undef,undef,undef,undef,undef,undef],defers:=[] })
   (fun _ _ _=>own_pure _ _) ?assign ?body ?done ?stop)
 case hI=>exact (own_below _ w (by omega)).and (own_blk _ _ _ _)
 case hIx=>exact fun c=>own_pure _ _
 case h0=>exact ⟨hB,k1⟩
 case assign =>
   rintro l i x W K hx' ⟨hb,q1⟩ hK
   unfold encB
   gi_wp2
   exact hK _ _ (KeepsFrom.refl _ _) (KeepC.refl _ _) ⟨hb,q1⟩ rfl
 case body =>
   rintro l i x a' W hx' ⟨hb,q1⟩ rfl
   have HN:=Lib.hid (foldN_step (beginN seed) _ i x hx')
   have hlt:=foldN_lt (p.data.toList.take i) (beginN_lt hs)
   generalize foldN (beginN seed) (p.data.toList.take i)=h at *
   have hxb:x.toNat<256:=UInt8.toNat_lt _
   generalize x.toNat=b at *
   obtain ⟨c1,c2⟩:=facts1 q1
   have Q1:=Lib.hid q1
   have hx2:=bits_xor32 h b hlt (by omega)
   have hx3:=xor_lt32 hlt (show b<4294967296 by omega)
   have hr:roundN h b=(h ^^^ b)*16777619 % 4294967296:=rfl
   generalize roundN h b=r at *
   generalize h ^^^ b=y at *
   have HR:=Lib.hid hr
   clear k1 k2 q1 hr hx
   gi_wp2
   refine ⟨(KeepsOthers.setCell _ _ _).from _,KeepC.set _ _ _ _ (by simp),hb.setCell (p:=⟨w.heap.size,0,none⟩) (Nat.le_refl _) _,?_⟩
   rw [HN.out,HR.out]
   exact Q1.out.set 0 _
 case done =>
   rintro D W hD ⟨hb,q1⟩ hK
   rw [List.take_length] at q1
   have hlt:=foldN_lt p.data.toList (beginN_lt hs)
   have hr:sumN seed p.data.toList=endB (endA (foldN (beginN seed) p.data.toList)):=rfl
   generalize foldN (beginN seed) p.data.toList=h at *
   have hx2:bits .xor .u32 (h:Int) (h / 32768)=((endX h:Nat):Int):=bits_xor32 h (h / 32768) hlt (by omega)
   have hxl:=endX_lt hlt
   have ha:((endX h:Nat):Int)*2246822519 % 4294967296=((endA h:Nat):Int):=by unfold endA;omega
   have hal:=endA_lt h
   have hx3:bits .xor .u32 ((endA h:Nat):Int) ((endA h:Nat) / 8192)=((endB (endA h):Nat):Int):=bits_xor32 (endA h) (endA h / 8192) hal (by omega)
   generalize endB (endA h)=z at *
   generalize endA h=y at *
   generalize endX h=x at *
   obtain ⟨d1,d2⟩:=facts1 q1
   have HK:=Lib.hid hK
   have HR:=Lib.hid hr
   clear hK k1 k2 hr hx q1
   simp only [Exit.inBlock,Exit.then]
   go_wp2
   have hD':=(Below.heap_setCell W (⟨w.heap.size,0,none⟩:Addr) (.int .u32 y) D (show D≠w.heap.size by omega)).trans HK.out
   exact leave (v:=.int .u32 z) rfl hD' (by simp [results,Tryz.results202,go_sem]) ⟨by rw [HR.out],below_put (hb.setCell (p:=⟨w.heap.size,0,none⟩) (Nat.le_refl _) _) (by omega) _⟩
 case stop =>
   rintro D c j W hD hI hK
   exact hI.elim
theorem fit_last(n:Int):fit n (sizeL.drop 14)=65536:=by
 unfold fit
 show ((List.find? (fun (x:Nat)=>decide (n≤(x:Int))) [65536]).getD 65536)=65536
 cases h:List.find? (fun (x:Nat)=>decide (n≤(x:Int))) [65536] with
 | none=>rfl
 | some y=>have:=List.mem_of_find?_eq_some h;simp at this;subst this;rfl
theorem isS_iff(n:Int):isS n=true↔∃ x∈sizeL,(x:Int)=n:=by
 constructor
 · intro h
   unfold isS sizeS fit at h
   have h2:=of_decide_eq_true h
   cases hh:sizeL.find? (fun (x:Nat)=>decide (n≤(x:Int))) with
   | none=>rw [hh] at h2;exact ⟨65536,by decide,h2⟩
   | some x=>rw [hh] at h2;exact ⟨x,List.mem_of_find?_eq_some hh,h2⟩
 · rintro ⟨x,hx,rfl⟩
   have:∀ x∈sizeL,isS (x:Int)=true:=by decide +kernel
   exact this x hx
end Go.Proofs.YtlckdfoflimahaaGreatDoor.Dc
namespace Go.Proofs.YtlckdfoflimahaaGreatDoor.Dc
open Go.RowKit Go.Shelf
structure Nd where
 sum:Nat
 key:ByteArray
 v:Value
structure Ty where
 d:TypeId
 t:TypeId
 r:TypeId
 ok:Value→Prop
def tyI:Ty:=⟨311,338,337,fun v=>∃ n,v=.int .i64 n⟩
def Nd.cells(x:Nd):List Value:=[.int .u32 x.sum,.string x.key,x.v]
def Nd.fine(T:Ty)(x:Nd):Prop:=x.sum<4294967296∧T.ok x.v
def flat(r:List Nd):List Value:=r.flatMap Nd.cells
theorem flat_cons(x:Nd)(r:List Nd):flat (x :: r)=x.cells++flat r:=rfl
theorem flat_append(a b:List Nd):flat (a++b)=flat a++flat b:=by unfold flat;rw [List.flatMap_append]
theorem flat_len(r:List Nd):(flat r).length=r.length*3:=by
 induction r with
 | nil=>rfl
 | cons x r ih=>rw [flat_cons,List.length_append,ih,List.length_cons];simp [Nd.cells];omega
theorem flat_at(r:List Nd):∀ (i:Nat) (x:Nd),r[i]?=some x→(flat r)[i*3]?=some (.int .u32 x.sum)∧(flat r)[i*3+1]?=some (.string x.key)∧(flat r)[i*3+2]?=some x.v:=by
 induction r with
 | nil=>intro i x h;simp at h
 | cons y r ih =>
   intro i x h
   cases i with
   | zero=>simp at h;subst h;exact ⟨rfl,rfl,rfl⟩
   | succ i =>
     have:=ih i x (by simpa using h)
     rw [flat_cons]
     have e:∀ k,(y.cells++flat r)[(i+1)*3+k]?=(flat r)[i*3+k]?:=fun k=>by
       rw [List.getElem?_append_right (by simp [Nd.cells];omega)]
       congr 1
       simp [Nd.cells];omega
     exact ⟨by rw [← this.1];exact e 0,by rw [← this.2.1];exact e 1,by rw [← this.2.2];exact e 2⟩
theorem flat_one{r:List Nd}(h:∀ x∈r,x.v.oneCell'=true):∀ u∈flat r,u.oneCell'=true:=by
 intro u hu
 obtain ⟨x,hx,hu⟩:=List.mem_flatMap.1 hu
 simp only [Nd.cells,List.mem_cons,List.not_mem_nil,or_false] at hu
 rcases hu with rfl|rfl|rfl
 · rfl
 · rfl
 · exact h x hx
theorem one_int{v:Value}(h:tyI.ok v):v.oneCell'=true:=by obtain ⟨n,rfl⟩:=h;rfl
structure Far (S:Nat→Prop) (w w':World):Prop where
 os:w'.os=w.os
 tape:w'.tape=w.tape
 output:w'.output=w.output
 size:w.heap.size≤w'.heap.size
 block:∀ k,k<w.heap.size→¬ S k→w'.heap[k]?=w.heap[k]?
theorem Far.refl(S:Nat→Prop)(w:World):Far S w w:=⟨rfl,rfl,rfl,Nat.le_refl _,fun _ _ _=>rfl⟩
theorem Far.trans{S S1:Nat→Prop}{a b c:World}(h:Far S a b)(g:Far S1 b c)(hs:∀ k,S1 k→S k∨a.heap.size≤k):Far S a c :=
 ⟨g.os.trans h.os,g.tape.trans h.tape,g.output.trans h.output,Nat.le_trans h.size g.size,fun k hk hn =>
   (g.block k (Nat.lt_of_lt_of_le hk h.size) (fun h1=>by rcases hs k h1 with h2|h2;exact hn h2;omega)).trans (h.block k hk hn)⟩
theorem Far.of_below{S:Nat→Prop}{a b:World}(h:Below a.heap.size a b):Far S a b:=⟨h.os,h.tape,h.output,h.size,fun k hk _=>h.block k hk⟩
theorem Far.of_grown{S:Nat→Prop}{a b:World}{row:Option Nat}(h:a.grownBy b row)(hr:∀ k,row=some k→S k∨a.heap.size≤k):Far S a b :=
 ⟨h.os,h.tape,h.output,h.size,fun k hk hn=>h.block k hk (fun e=>by rcases hr k e.symm with h1|h1;exact hn h1;omega)⟩
theorem Far.then_below{S:Nat→Prop}{a b c:World}(h:Far S a b)(g:Below b.heap.size b c):Far S a c:=h.trans (S1:=fun _=>False) (Far.of_below g) (fun _ h=>h.elim)
theorem Far.set{S:Nat→Prop}{a b:World}(h:Far S a b)(p:Addr)(v:Value)(hp:S p.block∨a.heap.size≤p.block):Far S a (b.setCell p v) :=
 h.trans (S1:=fun k=>k=p.block) ⟨rfl,rfl,rfl,by simp [World.setCell],fun k _ hn=>Below.heap_setCell _ _ _ _ hn⟩ (fun k e=>by subst e;exact hp)
theorem Far.mono{S S1:Nat→Prop}{a b:World}(h:Far S a b)(hs:∀ k,S k→S1 k):Far S1 a b:=⟨h.os,h.tape,h.output,h.size,fun k hk hn=>h.block k hk (fun h1=>hn (hs k h1))⟩
theorem Far.blk{S:Nat→Prop}{a b:World}(h:Far S a b){k:Nat}{t:TypeId}{c:Array Value}(hk:Blk a k t c)(hn:¬ S k):Blk b k t c:=(h.block k hk.lt hn).trans hk
theorem Blk.ty{W:World}{k:Nat}{t t':TypeId}{c c':Array Value}(h:Blk W k t c)(h':Blk W k t' c'):t=t':=by
 unfold Blk at h h';rw [h] at h';injection h' with h';injection h' with _ ht
def RowAt(T:Ty)(W:World)(v:Value)(r:List Nd):Prop:=W.ownsRow 0 T.r 3 v r.length (flat r)
theorem RowAt.nil(T:Ty)(W:World):RowAt T W (.slice none 0 0) []:=World.ownsRow_nil _ _ _ _
theorem RowAt.blk{T:Ty}{W:World}{v:Value}{r:List Nd}(h:RowAt T W v r){k:Nat}(hk:v.ownBlock=some k):∃ c,Blk W k T.r c:=by
 rcases h.2 with ⟨rfl,_⟩|⟨g,cap,cur,rfl,_,hg,_⟩
 · simp [Value.ownBlock] at hk
 · simp [Value.ownBlock] at hk;subst hk;exact ⟨cur,hg⟩
theorem RowAt.lt{T:Ty}{W:World}{v:Value}{r:List Nd}(h:RowAt T W v r){k:Nat}(hk:v.ownBlock=some k):k<W.heap.size:=by
 obtain ⟨c,hc⟩:=h.blk hk;exact hc.lt
theorem RowAt.keep{T:Ty}{W W':World}{v:Value}{r:List Nd}(h:RowAt T W v r)(hb:∀ k,v.ownBlock=some k→W'.heap[k]?=W.heap[k]?):RowAt T W' v r:=by
 refine ⟨h.1,?_⟩
 rcases h.2 with hn|⟨g,cap,cur,rfl,hb',hg,rest⟩
 · exact .inl hn
 · exact .inr ⟨g,cap,cur,rfl,hb',(hb g rfl).trans hg,rest⟩
theorem RowAt.far{T:Ty}{S:Nat→Prop}{W W':World}{v:Value}{r:List Nd}(h:RowAt T W v r)(f:Far S W W')(hs:∀ k,v.ownBlock=some k→¬ S k):RowAt T W' v r :=
 h.keep fun k hk=>f.block k (h.lt hk) (hs k hk)
theorem RowAt.form{T:Ty}{W:World}{v:Value}{r:List Nd}(h:RowAt T W v r):∃ A cap,v=.slice A r.length cap∧r.length≤cap∧cap≤maxLen ∧
   (∀ i x,r[i]?=some x→∃ g,A=some ⟨g,0,none⟩∧v.ownBlock=some g∧W.cell? ⟨g,i*3,none⟩=some (.int .u32 x.sum)∧W.cell? ⟨g,i*3+1,none⟩=some (.string x.key)∧W.cell? ⟨g,i*3+2,none⟩=some x.v∧∀ o,W.frozen? ⟨g,o,none⟩=false):=by
 have hO:=h
 rcases h.2 with ⟨rfl,h0⟩|⟨g,cap,cur,rfl,_,hg,hl,hm,_⟩
 · have hr:r=[]:=List.eq_nil_of_length_eq_zero h0
   subst hr
   exact ⟨none,0,rfl,Nat.le_refl _,Nat.zero_le _,fun i x hx=>by simp at hx⟩
 · refine ⟨some ⟨g,0,none⟩,cap,rfl,hl,hm,fun i x hx=>⟨g,rfl,rfl,?_⟩⟩
   obtain ⟨hi,_⟩:=List.getElem?_eq_some_iff.1 hx
   obtain ⟨e0,e1,e2⟩:=flat_at r i x hx
   have hc:=fun j hj=>World.ownsRow.cellAt (w:=W) (base:=0) (e:=T.r) (size:=3) (g:=g) (n:=r.length) (cap:=cap) (xs:=flat r) hO j hj
   exact ⟨(hc _ (by omega)).trans e0,(hc _ (by omega)).trans e1,(hc _ (by omega)).trans e2,fun o=>World.ownsRow.frozenAt (w:=W) (base:=0) (e:=T.r) (size:=3) (g:=g) (n:=r.length) (cap:=cap) (xs:=flat r) hO o⟩
structure TabAt (T:Ty) (W:World) (g:Nat) (vs:List Value) (rows:List (List Nd)):Prop where
 blk:Blk W g T.t vs.toArray
 len:vs.length=rows.length
 row:∀ (i:Nat) (v:Value) (r:List Nd),vs[i]?=some v→rows[i]?=some r→RowAt T W v r
def Sep(vs:List Value):Prop:=∀ (i j:Nat) (v u:Value) (k:Nat),vs[i]?=some v→vs[j]?=some u→v.ownBlock=some k→u.ownBlock=some k→i=j
def InTab(g:Nat)(vs:List Value)(k:Nat):Prop:=k=g∨∃ v∈vs,v.ownBlock=some k
theorem TabAt.rows{T:Ty}{W:World}{g:Nat}{vs:List Value}{rows:List (List Nd)}(h:TabAt T W g vs rows){i:Nat}{v:Value}(hi:vs[i]?=some v):∃ r,rows[i]?=some r∧RowAt T W v r:=by
 obtain ⟨hlt,_⟩:=List.getElem?_eq_some_iff.1 hi
 rw [h.len] at hlt
 exact ⟨_,List.getElem?_eq_getElem hlt,h.row i v _ hi (List.getElem?_eq_getElem hlt)⟩
theorem TabAt.mem{T:Ty}{W:World}{g:Nat}{vs:List Value}{rows:List (List Nd)}(h:TabAt T W g vs rows){v:Value}(hv:v∈vs):∃ r,RowAt T W v r:=by
 obtain ⟨i,hi⟩:=List.getElem?_of_mem hv
 obtain ⟨r,_,hr⟩:=h.rows hi
 exact ⟨r,hr⟩
theorem TabAt.far{T:Ty}{S:Nat→Prop}{W W':World}{g:Nat}{vs:List Value}{rows:List (List Nd)}(h:TabAt T W g vs rows)(f:Far S W W')(hs:∀ k,InTab g vs k→¬ S k):TabAt T W' g vs rows :=
 ⟨f.blk h.blk (hs _ (.inl rfl)),h.len,fun i v r hv hr=>(h.row i v r hv hr).far f fun k hk=>hs k (.inr ⟨v,List.mem_of_getElem? hv,hk⟩)⟩
theorem TabAt.later{T:Ty}{W W':World}{g:Nat}{vs:List Value}{rows:List (List Nd)}(h:TabAt T W g vs rows)(hb:Below W.heap.size W W'):TabAt T W' g vs rows :=
 h.far (S:=fun _=>False) (Far.of_below hb) fun _ _ h=>h
theorem Sep.set{vs:List Value}(h:Sep vs){i:Nat}{v v':Value}(hv:vs[i]?=some v)(hn:∀ k,v'.ownBlock=some k→v.ownBlock=some k∨∀ u∈vs,u.ownBlock≠some k):Sep (vs.set i v'):=by
 have key:∀ (a:Nat) (x:Value) (k:Nat),(vs.set i v')[a]?=some x→x.ownBlock=some k→(a=i∧v'.ownBlock=some k)∨(a≠i∧vs[a]?=some x):=fun a x k ha hx=>by
   by_cases e:a=i
   · subst e
     rw [List.getElem?_set_self (List.getElem?_eq_some_iff.1 hv).1] at ha
     cases ha
     exact .inl ⟨rfl,hx⟩
   · rw [List.getElem?_set_ne (fun h=>e h.symm)] at ha
     exact .inr ⟨e,ha⟩
 intro a b x y k ha hb hx hy
 rcases key a x k ha hx with ⟨rfl,h1⟩|⟨h1,h2⟩ <;> rcases key b y k hb hy with ⟨rfl,h3⟩|⟨h3,h4⟩
 · rfl
 · rcases hn k h1 with h5|h5
   · exact h a b v y k hv h4 h5 hy
   · exact absurd hy (h5 y (List.mem_of_getElem? h4))
 · rcases hn k h3 with h5|h5
   · exact h a b x v k h2 hv hx h5
   · exact absurd hx (h5 x (List.mem_of_getElem? h2))
 · exact h a b x y k h2 h4 hx hy
theorem Sep.left{a b:List Value}(h:Sep (a++b)):Sep a:=fun i j v u k hi hj hv hu =>
 h i j v u k ((List.getElem?_append_left (List.getElem?_eq_some_iff.1 hi).1).trans hi) ((List.getElem?_append_left (List.getElem?_eq_some_iff.1 hj).1).trans hj) hv hu
theorem Sep.right{a b:List Value}(h:Sep (a++b)):Sep b:=fun i j v u k hi hj hv hu=>by
 have e:∀ n,(a++b)[a.length+n]?=b[n]?:=fun n=>by rw [List.getElem?_append_right (by omega)];congr 1;omega
 have:=h (a.length+i) (a.length+j) v u k ((e i).trans hi) ((e j).trans hj) hv hu
 omega
theorem Sep.apart{a b:List Value}(h:Sep (a++b)){v u:Value}{k:Nat}(hv:v∈a)(hu:u∈b)(h1:v.ownBlock=some k):u.ownBlock≠some k:=fun h2=>by
 obtain ⟨i,hi⟩:=List.getElem?_of_mem hv
 obtain ⟨j,hj⟩:=List.getElem?_of_mem hu
 have:=h i (a.length+j) v u k ((List.getElem?_append_left (List.getElem?_eq_some_iff.1 hi).1).trans hi) (by rw [List.getElem?_append_right (by omega)];rw [← hj];congr 1;omega) h1 h2
 have:=(List.getElem?_eq_some_iff.1 hi).1
 omega
theorem Sep.join{a b:List Value}(ha:Sep a)(hb:Sep b)(hab:∀ v∈a,∀ u∈b,∀ k,v.ownBlock=some k→u.ownBlock≠some k):Sep (a++b):=by
 intro i j v u k hi hj hv hu
 rcases Nat.lt_or_ge i a.length with h1|h1 <;> rcases Nat.lt_or_ge j a.length with h2|h2
 · rw [List.getElem?_append_left h1] at hi;rw [List.getElem?_append_left h2] at hj;exact ha i j v u k hi hj hv hu
 · rw [List.getElem?_append_left h1] at hi;rw [List.getElem?_append_right h2] at hj;exact absurd hu (hab v (List.mem_of_getElem? hi) u (List.mem_of_getElem? hj) k hv)
 · rw [List.getElem?_append_right h1] at hi;rw [List.getElem?_append_left h2] at hj;exact absurd hv (hab u (List.mem_of_getElem? hj) v (List.mem_of_getElem? hi) k hu)
 · rw [List.getElem?_append_right h1] at hi;rw [List.getElem?_append_right h2] at hj
   have:=hb _ _ v u k hi hj hv hu;omega
theorem Sep.none{vs:List Value}(h:∀ v∈vs,v.ownBlock=none):Sep vs:=fun i j v u k hi _ hv _=>by rw [h v (List.mem_of_getElem? hi)] at hv;cases hv
end Go.Proofs.YtlckdfoflimahaaGreatDoor.Dc

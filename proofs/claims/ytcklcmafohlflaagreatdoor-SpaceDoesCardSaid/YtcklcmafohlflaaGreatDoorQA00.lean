/- What stands in several of the texts. -/
import Derived.Deep.RegionWith
import Derived.Handy
import Derived.Lib.Hide
import Derived.LoopIn
import Derived.LoopNIn
import Derived.OwnWalkIn
import Derived.RangeFuncBound
import Derived.RangeFuncNested
import Derived.Shelf.RegionOpen
import Derived.WalkLawsBesides
import Derived.WalkSpells
import Derived.Test.YtcklcmafohlflaaGreatDoorProg
set_option maxRecDepth 200000
set_option maxHeartbeats 8000000
namespace Go.Proofs.YtcklcmafohlflaaGreatDoor
open Go.RowKit Go.Shelf
theorem lAa {α:Type} {l:List α} {i:Nat} (h:i<l.length):l[i]?=some l[i]:=List.getElem?_eq_getElem h
theorem lAb {α:Type} {l:List α} {i:Nat} {a:α}:l[i]?=some a↔∃ h:i<l.length,l[i]=a:=List.getElem?_eq_some_iff
theorem lAc {α:Type} {l:List α} {i:Nat} {a:α} (h:l[i]?=some a):a∈l:=List.mem_of_getElem? h
theorem lAd (n:Nat):n<=n:=Nat.le_refl n
theorem lAe {n m k:Nat} (h:n<=m) (g:m<=k):n<=k:=Nat.le_trans h g
theorem lAf {α:Type} {l:List α} {i:Nat} (h:i<l.length):l.take (i+1)=l.take i++[l[i]]:=List.take_succ_eq_append_getElem h
theorem lAg {α:Type} {a b:α}:a∈[b]↔a=b:=List.mem_singleton
theorem lAh {α:Type} {a b:List α}:(a++b).length=a.length+b.length:=List.length_append
theorem jY {p:Prop} (h:p):Hid p:=Lib.hid h
abbrev Bl (w w':World):Prop:=Below w.heap.size w w'
end Go.Proofs.YtcklcmafohlflaaGreatDoor
namespace Go.Proofs.YtcklcmafohlflaaGreatDoor.Zc
open Go.RowKit Go.Shelf
attribute [local go_sem] Oper.semAt_some
theorem Zv{w:World}{o:Obj}{k:Nat}(h:k=w.heap.size):(w.alloc o).heap[k]?=some o:=by subst h;exact heap_alloc_new w o
structure KeepC(T:TypeId->Prop)  (L:List Nat) (A B:World):Prop where
 size:A.heap.size<=B.heap.size
 same:∀ (k:Nat) (c:Array Value) (t:TypeId),k ∉ L->T t->A.heap[k]?=some (.cells c t (0,0))->B.heap[k]?=some (.cells c t (0,0))
section
variable {T:TypeId->Prop}
theorem KeepC.refl(L:List Nat)(A:World):KeepC T L A A:=⟨lAd _,fun _ _ _ _ _ h=>h⟩
end
section
variable {T:TypeId->Prop}
theorem KeepC.trans{L:List Nat}{A B C:World}(h:KeepC T L A B)(g:KeepC T L B C):KeepC T L A C:=⟨lAe h.size g.size,fun k c t hk hc ho=>g.same k c t hk hc (h.same k c t hk hc ho)⟩
end
section
variable {T:TypeId->Prop}
theorem KeepC.of_below{L:List Nat}{A B:World}(h:Bl A B):KeepC T L A B:=⟨h.size,fun k _ _ _ _ ho=>(h.block k (Array.getElem?_eq_some_iff.1 ho).1).trans ho⟩
end
section
variable {T:TypeId->Prop}
theorem KeepC.put{L:List Nat}(W:World)(l:Nat)(o o':Obj)(hl:W.heap[l]?=some o)(hc:o.isCells=false):KeepC T L W (W.putObj l o') :=
 ⟨by simp [World.putObj],fun k c t _ _ hk=>by
   by_cases e:k=l
   ·subst e;rw [hl] at hk;cases hk;cases hc
   ·exact (World.putObj_heap_other e).trans hk⟩
end
section
variable {T:TypeId->Prop}
theorem KeepC.set{L:List Nat}(W:World)(b o:Nat)(v:Value)(hb:b∈L):KeepC T L W (W.setCell ⟨b,o,none⟩ v) :=
 ⟨by simp [World.setCell],fun k c t hk _ hx=>(Below.heap_setCell _ _ _ k (fun e=>hk (by rw [e];exact hb))).trans hx⟩
end
def Q8(J:Nat->World->Prop):Prop:=∀ i A B,J i A->Bl A B->J i B
def Ym(T:TypeId->Prop)(L:List Nat)(J Jx:Nat->World->Prop)(i:Nat)(W:World)(e:Ending)(W':World):Prop :=
 (e=.returned (.bool true)/\J (i+1) W'/\KeepC T L W W')\/(e=.returned (.bool false)/\Jx (i+1) W')
def Cv(T:TypeId->Prop){α:Type}(P:Program)(g:Nat)(lb:Array Value)(encs:Nat->α->Array Value)(xs:List α)(L:List Nat)(w:World):Prop :=
 ∀ (l:Nat) (J Jx:Nat->World->Prop) (W:World),Bl w W->Q8 J->Q8 Jx ->
  (∀ i x W1,xs[i]?=some x->J i W1->YieldAt Fence.wide 4 P l (encs i x) W1 (Ym T L J Jx i W1))->J 0 W ->
  CallsIn Fence.wide 5 P g (#[.func (.yield l) #[] #[]]++lb) W fun e W'=>(∃ v,e=.returned v)/\(J xs.length W'\/∃ i,Jx i W')
def Xg(T:TypeId->Prop)(B:Nat)(L:List Nat)(I:Nat->World->Prop)(Ix:Code->Nat->World->Prop)(i:Nat)(W:World):Exit->Act->World->Prop
 | .normal,_,W'=>KeepsFrom B W W'/\KeepC T L W W'/\I (i+1) W'
 | .ret,_,W'=>KeepsFrom B W W'/\Ix .ret (i+1) W'
 | .exit id,_,W'=>KeepsFrom B W W'/\Ix (.exit id) (i+1) W'
 | _,_,_=>False
theorem Z9{A B:World}(h:Bl A B):A.grownBy B none:=⟨h.os,h.tape,h.output,h.size,fun q hq _=>h.block q hq⟩
section
variable {T:TypeId->Prop}
theorem Ui{α:Type}{P:Program}{g:Operand}{ps:Array Tmp}{assign body:Code}{Q:Exit->Act->World->Prop}{a:Act}{w:World}
 {gf:Nat} {lb:Array Value} (hg:a.eval g=.func (.func gf) #[] lb) (eg:∀ args w,(callFunc gf args).run P w=.ok (.enter gf args) w)
 {encs:Nat->α->Array Value} {xs:List α} {L:List Nat} (hseq:Cv T P gf lb encs xs L w) (hps:∀ i x,(encs i x).size=ps.size)
 (I:Nat->World->Prop) (Ix:Code->Nat->World->Prop) (hI:OwnFrom w.heap.size I) (hIx:∀ c,OwnFrom w.heap.size (Ix c)) (h0:I 0 w)
 (Ax:Nat->α->Act->World->Prop) (hAx:∀ i x a',OwnFrom w.heap.size (fun (_:Unit) W=>Ax i x a' W))
 (hassign:∀ (l i:Nat) (x:α) (W:World) (K:Act->World->Prop),xs[i]?=some x->I i W->(∀ a' W',KeepsFrom w.heap.size W W'->KeepC T L W W'->I i W'->Ax i x a' W'->K a' W') ->
   assign.wpIn (Fence.wide.inRound l) 4 P (Exit.then K (fun _ _ _=>False)) { tmps:=(ps.zip (encs i x)).foldl (fun t (p,v)=>t.setIfInBounds p v) a.tmps,defers:=[] } W)
 (hbody:∀ (l i:Nat) (x:α) (a':Act) (W:World),xs[i]?=some x->I i W->Ax i x a' W->body.wpIn (Fence.wide.inRound l) 4 P (Xg T w.heap.size L I Ix i W) a' W)
 (hdone:∀ (D:Nat) (W:World),w.heap.size<=D->I xs.length W->W.heap[D]?=some (.deferred (some []))->Q .normal { a with defers:={ target:=.collected D,args:=#[] } :: a.defers } W)
 (hstop:∀ (D:Nat) (c:Code) (i:Nat) (W:World),w.heap.size<=D->Ix c i W->W.heap[D]?=some (.deferred (some []))->c.wpIn Fence.wide 6 P Q { a with defers:={ target:=.collected D,args:=#[] } :: a.defers } W) :
 (Code.rangeFunc g ps assign body).wpIn Fence.wide 6 P Q a w:=by
 refine wpIn_rangeFunc ?_;intro fn hfn;obtain ⟨rc,hrc⟩:∃ rc:LoopState->Option Code->Loop,rc=fun st pe=>{ state:=st,pending:=pe,fn,tmps:=a.tmps,params:=ps,assign,body,defers:=w.heap.size }:=⟨_,rfl⟩;obtain ⟨W1,hW1⟩:∃ W1,(w.alloc (.deferred (some []))).alloc (.loop (rc .ready none))=W1:=⟨_,rfl⟩;have hL1:W1.heap[w.heap.size+1]?=some (.loop (rc .ready none)):=by rw [<- hW1];exact Zv (by simp)
 have hK1:W1.heap[w.heap.size]?=some (.deferred (some [])):=by rw [<- hW1];exact (Below.heap_alloc _ _ _ (by simp)).trans (Zv rfl)
 have hI1:I 0 W1:=by rw [<- hW1];exact hI.alloc _ (hI.alloc _ h0)
 have hb1:Bl w W1:=by rw [<- hW1];exact ((Below.refl _ w).alloc (lAd _) _).alloc (by simp) _
 have hIb:Q8 I:=fun i A B hA hB=>hI i A B none hA (Z9 hB) (fun r e=>by cases e);have hIxb:∀ c,Q8 (Ix c):=fun c i A B hA hB=>hIx c i A B none hA (Z9 hB) (fun r e=>by cases e)
 refine ⟨w.heap.size+1,[{ target:=.collected w.heap.size,args:=#[] }],W1,{ target:=.fn (.func gf) lb,args:=#[.func (.yield (w.heap.size+1)) #[] #[]] },W1,gf,
  #[.func (.yield (w.heap.size+1)) #[] #[]]++lb,W1,?_,?_,?_,?_,fun _=>by decide,?_⟩
 ·rw [<- hW1,hrc];exact run_enterLoop_outer _ _ _ _ _
 ·simp only [resolve,hg];simp [go_sem]
 ·intro f' _;trivial
 ·simp [invoke,go_sem,eg]
 ·have keep:∀ {A B:World} {k:Nat} {o:Obj},Bl A B->A.heap[k]?=some o->B.heap[k]?=some o:=fun hb hk=>(hb.block _ (Array.getElem?_eq_some_iff.1 hk).1).trans hk
  refine (hseq (w.heap.size+1)
   (fun i W=>I i W/\W.heap[w.heap.size+1]?=some (.loop (rc .ready none))/\W.heap[w.heap.size]?=some (.deferred (some [])))
   (fun i W=>∃ c,Ix c i W/\W.heap[w.heap.size+1]?=some (.loop (rc .done (some c)))/\W.heap[w.heap.size]?=some (.deferred (some [])))
   W1 hb1
   (fun i A B hs hb=>⟨hIb i A B hs.1 hb,keep hb hs.2.1,keep hb hs.2.2⟩)
   (fun i A B hs hb=>by obtain ⟨c,h1,h2,h3⟩:=hs;exact ⟨c,hIxb c i A B h1 hb,keep hb h2,keep hb h3⟩)
   ?_ ⟨hI1,hL1,hK1⟩).mono ?_
  ·rintro i x W hx ⟨hi,hl,hk⟩;have hy:=run_yield (P:=P) (args:=encs i x) hl (by rw [hrc];exact hps i x);rw [hrc] at hy;refine ⟨fn,_,assign,body,hy,roundIn_of_wpIn hfn (hassign _ i x W _ hx hi ?_)⟩;clear hy;intro a' Wa hkfa hkpa hia hax;have hla:=hkfa.same _ _ (by omega) hl rfl;have hka:=hkfa.same _ _ (lAd _) hk rfl;have hlt:w.heap.size+1<Wa.heap.size:=(Array.getElem?_eq_some_iff.1 hla).1;refine ⟨_,run_beginRound hla (by rw [hrc]),?_⟩;have hl2:(Wa.putObj (w.heap.size+1) (.loop { rc .ready none with state:=.busy })).heap[w.heap.size+1]?=some (.loop { rc .ready none with state:=.busy }):=World.putObj_heap_same hlt;have hk2:(Wa.putObj (w.heap.size+1) (.loop { rc .ready none with state:=.busy })).heap[w.heap.size]?=some (.deferred (some [])):=(World.putObj_heap_other (by omega)).trans hka;have hw2:KeepC T L Wa (Wa.putObj (w.heap.size+1) (.loop { rc .ready none with state:=.busy })):=KeepC.put _ _ _ _ hla rfl;refine wpIn_mono (hbody _ i x a' _ hx (hI.putObj _ hia (by omega) hla rfl) ((hAx i x a').putObj (s:=()) _ hax (by omega) hla rfl)) ?_
   have fin:∀ (jump:Option Code) (W3:World),KeepsFrom w.heap.size (Wa.putObj (w.heap.size+1) (.loop { rc .ready none with state:=.busy })) W3 ->
    (Instr.endRound (w.heap.size+1) jump).run P W3=.ok (.bool jump.isNone) (W3.putObj (w.heap.size+1) (.loop (rc (if jump.isNone then .ready else .done) jump))) /\
    W3.heap[w.heap.size+1]?=some (.loop { rc .ready none with state:=.busy }) /\
    (W3.putObj (w.heap.size+1) (.loop (rc (if jump.isNone then .ready else .done) jump))).heap[w.heap.size+1]?=some (.loop (rc (if jump.isNone then .ready else .done) jump)) /\
    (W3.putObj (w.heap.size+1) (.loop (rc (if jump.isNone then .ready else .done) jump))).heap[w.heap.size]?=some (.deferred (some [])):=fun jump W3 hk3=>by
    have hl3:=hk3.same _ _ (by omega) hl2 rfl
    have:=run_endRound (P:=P) jump hl3
    rw [hrc] at this ⊢;exact ⟨this,by rw [hrc] at hl3;exact hl3,World.putObj_heap_same (Array.getElem?_eq_some_iff.1 hl3).1,(World.putObj_heap_other (by omega)).trans (hk3.same _ _ (lAd _) hk2 rfl)⟩
   rintro e a3 W3 hp
   cases e with
   | normal =>
     obtain ⟨hk3,hkp3,hi3⟩:=hp;obtain ⟨hr,hl3,hl4,hk4⟩:=fin none W3 hk3;exact ⟨_,_,hr,.inl ⟨rfl,⟨hI.putObj _ hi3 (by omega) hl3 rfl,hl4,hk4⟩,hkpa.trans ((hw2.trans hkp3).trans (KeepC.put _ _ _ _ hl3 rfl))⟩⟩
   | ret =>
     obtain ⟨hk3,hi3⟩:=hp;obtain ⟨hr,hl3,hl4,hk4⟩:=fin (some .ret) W3 hk3;exact ⟨_,_,hr,.inr ⟨rfl,.ret,(hIx _).putObj _ hi3 (by omega) hl3 rfl,hl4,hk4⟩⟩
   | exit id =>
     obtain ⟨hk3,hi3⟩:=hp;obtain ⟨hr,hl3,hl4,hk4⟩:=fin (some (.exit id)) W3 hk3;exact ⟨_,_,hr,.inr ⟨rfl,.exit id,(hIx _).putObj _ hi3 (by omega) hl3 rfl,hl4,hk4⟩⟩
   | goto t=>exact hp.elim
   | panic ch=>exact hp.elim
   | outgrown=>exact hp.elim
  ·rintro e W2 ⟨⟨v,rfl⟩,(⟨hi,hl,hk⟩|⟨i,c,hi,hl,hk⟩)⟩
   ·exact ⟨none,_,by have:=run_endLoop (P:=P) hl (by rw [hrc];simp);rw [hrc] at this;exact this,hdone _ _ (lAd _) (hI.putObj _ hi (by omega) hl rfl) ((World.putObj_heap_other (by omega)).trans hk)⟩
   ·exact ⟨some c,_,by have:=run_endLoop (P:=P) hl (by rw [hrc];simp);rw [hrc] at this;exact this,hstop _ c i _ (lAd _) ((hIx c).putObj _ hi (by omega) hl rfl) ((World.putObj_heap_other (by omega)).trans hk)⟩
end
theorem Ze{β:Type}(B:Nat)(w0:World)(hB:w0.heap.size<=B):OwnFrom B (fun (_:β) W=>Bl w0 W):=fun _ X Y row hs hg hr =>
 ⟨hg.os.trans hs.os,hg.tape.trans hs.tape,hg.output.trans hs.output,lAe hs.size hg.size,fun k hk=>(hg.block k (Nat.lt_of_lt_of_le hk hs.size) (fun e=>by have:=(hr k e.symm).1;omega)).trans (hs.block k hk)⟩
theorem Zz{β γ:Type}{B:Nat}{I:γ->β->World->Prop}(h:∀ g,OwnFrom B (I g)):OwnFrom B (fun s W=>∃ g,I g s W):=fun s X Y row ⟨g,hs⟩ hg hr=>⟨g,h g s X Y row hs hg hr⟩
theorem Z4{β:Type}(B:Nat)(q:β->Prop):OwnFrom B (fun s (_:World)=>q s):=fun _ _ _ _ h _ _=>h
theorem Y5{fn:Func}{R:Ending->World->Prop}{a:Act}{W:World}{D:Nat}{v:Value}(hd:a.defers=[{ target:=.collected D,args:=#[] }])(hD:W.heap[D]?=some (.deferred (some [])))
 (hr:(results fn a.tmps).run Tryz.prog (W.putObj D (.deferred none))=.ok v (W.putObj D (.deferred none))) (hR:R (.returned v) (W.putObj D (.deferred none))):bodyPostM Fence.wide 6 Tryz.prog fn R .ret a W:=by
 obtain ⟨tmps,ds⟩:=a;simp only at hd;subst hd;exact ⟨by simp,.inl ⟨_,_,rfl,run_takeDeferred hD,⟨v,hr,hR⟩⟩⟩
theorem Zg{w W:World}{D:Nat}(hb:Bl w W)(hn:w.heap.size<=D)(o:Obj):Bl w (W.putObj D o) :=
 hb.trans ⟨rfl,rfl,rfl,by simp [World.putObj],fun k hk=>World.putObj_heap_other (by omega)⟩
section
variable {T:TypeId->Prop}
theorem KeepC.of_grownBy{L:List Nat}{A B:World}{row:Option Nat}(h:A.grownBy B row)(hr:∀ k c t,row=some k->A.heap[k]?=some (.cells c t (0,0))->¬ T t):KeepC T L A B :=
 ⟨h.size,fun k c t _ ht hk=>by
   by_cases e:some k=row
   ·exact absurd ht (hr k c t e.symm hk)
   ·exact (h.block k (Array.getElem?_eq_some_iff.1 hk).1 e).trans hk⟩
end
structure Ext (w1:World) where
 w:World
 ok:Bl w1 w
theorem Ext.cell{w1:World}(x:Ext w1){b o:Nat}{v:Value}(h:w1.cell? ⟨b,o,none⟩=some v):x.w.cell? ⟨b,o,none⟩=some v :=
 (x.ok.cell (p:=⟨b,o,none⟩) (World.block_lt_of_cell? w1 ⟨b,o,none⟩ h)).trans h
theorem Ext.one(w1:World):Nonempty (Ext w1):=⟨⟨w1,Below.refl _ _⟩⟩
theorem Zd{P:Program}{id:Nat}{Q:Exit->Act->World->Prop}{a:Act}{w1 w:World}{l:List Oper}(hm:P.follows .mixedOrders=true)(hB:Region.lexB .any l.toArray=true)(hw:Bl w1 w)
 (h:wpQuiet P l.toArray (fun W=>∃ x:Ext w1,W=x.w) (fun a'=>∀ w',(∃ x:Ext w1,w'=x.w)->Q .normal a' w') l a):(Code.region id l.toArray true).wp P Q a w:=by
 exact wp_region_quiet (C:=fun W=>∃ x:Ext w1,W=x.w) hm hB ⟨⟨w.drew,hw.drew⟩,rfl⟩ h
theorem Ext.call{P:Program}{f:FuncId}{args:Array Value}{w1:World}(x:Ext w1){v:Value}(h:Calls P f args x.w fun e w'=>e=.returned v/\Below x.w.heap.size x.w w') :
 Calls P f args x.w fun e w''=>e=.returned v/\∃ y:Ext w1,w''=y.w :=
 h.mono fun _ w' ⟨he,hb⟩=>⟨he,⟨w',x.ok.trans (hb.mono x.ok.size)⟩,rfl⟩
abbrev Ent:=ByteArray × Int
def Zx(l:List Ent):List Value:=l.flatMap fun e=>[.string e.1,.int .i64 e.2]
theorem Zb(a b:List Ent):Zx (a++b)=Zx a++Zx b:=by simp [Zx]
theorem Yo:(Tryz.prog.info? 94).map (fun i=>(i.zero,i.size,i.bytes))=some (some (.agg #[.string ⟨#[]⟩,.int .i64 0]),2,24):=by kernel_rfl
end Go.Proofs.YtcklcmafohlflaaGreatDoor.Zc

/- Texts of one kind in one: Sched, ZThru, SpAll, SpFind, SpKeep, SpPut, Bz. -/
import Derived.Test.YtmehfohpjigmmaaGreatDoorQErReflect23
set_option maxRecDepth 200000
set_option maxHeartbeats 8000000
namespace Go.Proofs.YtmehfohpjigmmaaGreatDoor.Sched
open Zc
open Go
section
variable {P:Program} {ops:Array Oper} {Q:Exit->Act->World->Prop} {md:Region.Mode} {S:World->Prop}
def Ou(md:Region.Mode)(ops:Array Oper)(listed:Array Bool)(i:Nat):Bool :=
 match ops[i]? with
 | some o=>!listed.toList.getD i true&&o.after.toList.all fun e=>!Region.binds md e || listed.toList.getD e.on false
 | none=>false
theorem Uo{listed:Array Bool}{i:Nat}(h:Ou md ops listed i=true):(Region.ready md ops listed).contains i=true:=by
 unfold Ou at h
 cases ho:ops[i]? with
 | none=>rw [ho] at h;cases h
 | some o =>
   rw [ho] at h;simp only [Bool.and_eq_true,Bool.not_eq_true',List.all_eq_true,Bool.or_eq_true] at h;rw [List.contains_iff_mem,mem_ready];refine ⟨by simpa using h.1,o,ho,fun e he hb=>?_⟩;rcases h.2 e (by simpa using he) with h2|h2
   ·rw [hb] at h2;cases h2
   ·simpa using h2
def z2f(md:Region.Mode)(ops:Array Oper)(oi:Oper)(i:Nat):Nat->List Oper->List Bool->Bool
 | j,oj :: r,l :: lr=>(l || j==i || oj.after.toList.any (fun e=>Region.binds md e&&e.on==i) || oi.apart ops oj)&&z2f md ops oi i (j+1) r lr
 | _,_,_=>true
theorem Jg{oi:Oper}{i:Nat}:∀ (r:List Oper) (l:List Bool) (j:Nat),z2f md ops oi i j r l=true->∀ k oj,r[k]?=some oj->l.getD k true=true\/j+k=i\/oj.after.any (fun e=>Region.binds md e&&e.on==i)=true\/oi.apart ops oj=true
 | [],_,_,_,k,oj,hk=>by simp at hk
 | o :: r,[],_,_,k,oj,hk=>.inl (by simp)
 | o :: r,b :: l,j,h,k,oj,hk=>by
   unfold z2f at h;simp only [Bool.and_eq_true,Bool.or_eq_true,beq_iff_eq] at h
   cases k with
   | zero =>
     simp only [List.getElem?_cons_zero,Option.some.injEq] at hk;subst hk;rcases h.1 with ((h1|h1)|h1)|h1
     ·exact .inl (by simpa using h1)
     ·exact .inr (.inl (by omega))
     ·refine .inr (.inr (.inl ?_));rw [<- Array.any_toList];exact h1
     ·exact .inr (.inr (.inr h1))
   | succ k =>
     simp only [List.getElem?_cons_succ] at hk;rcases Jg r l (j+1) h.2 k oj hk with h1|h1|h1|h1
     ·exact .inl (by simpa using h1)
     ·exact .inr (.inl (by omega))
     ·exact .inr (.inr (.inl h1))
     ·exact .inr (.inr (.inr h1))
def Aw(md:Region.Mode)(ops:Array Oper)(listed:Array Bool)(i:Nat):Bool :=
 match ops[i]? with
 | some oi=>z2f md ops oi i 0 ops.toList listed.toList
 | none=>false
theorem Ka{listed:Array Bool}{i:Nat}(h:Aw md ops listed i=true):Region.free md ops listed i=true:=by
 unfold Aw at h;unfold Region.free
 cases ho:ops[i]? with
 | none=>rw [ho] at h;cases h
 | some o =>
   rw [ho] at h;simp only [List.all_eq_true,List.mem_range];intro j hj
   have:=Jg _ _ _ h j ops[j] (by simp [hj])
   simp only [Array.getElem?_eq_getElem hj,Bool.or_eq_true,beq_iff_eq];rcases this with h1|h1|h1|h1
   ·exact .inl (.inr (by simpa using h1))
   ·exact .inl (.inl (by omega))
   ·exact .inr (.inl h1)
   ·exact .inr (.inr h1)
def Kc(md:Region.Mode)(listed:List Bool)(i:Nat):Nat->List Oper->List Bool->Bool
 | j,o :: r,l :: lr=>(l || j==i || !(o.after.toList.all fun e=>!Region.binds md e || listed.getD e.on false))&&Kc md listed i (j+1) r lr
 | _,_,_=>true
theorem Jr{listed:List Bool}{i:Nat}:∀ (r:List Oper) (l:List Bool) (j:Nat),Kc md listed i j r l=true->∀ k o,r[k]?=some o->l.getD k true=true\/j+k=i\/(o.after.toList.all fun e=>!Region.binds md e || listed.getD e.on false)=false
 | [],_,_,_,k,oj,hk=>by simp at hk
 | o :: r,[],_,_,k,oj,hk=>.inl (by simp)
 | o :: r,b :: l,j,h,k,oj,hk=>by
   unfold Kc at h;simp only [Bool.and_eq_true,Bool.or_eq_true,beq_iff_eq,Bool.not_eq_true'] at h
   cases k with
   | zero =>
     simp only [List.getElem?_cons_zero,Option.some.injEq] at hk;subst hk;rcases h.1 with (h1|h1)|h1
     ·exact .inl (by simpa using h1)
     ·exact .inr (.inl (by omega))
     ·exact .inr (.inr h1)
   | succ k =>
     simp only [List.getElem?_cons_succ] at hk;rcases Jr r l (j+1) h.2 k oj hk with h1|h1|h1
     ·exact .inl (by simpa using h1)
     ·exact .inr (.inl (by omega))
     ·exact .inr (.inr h1)
theorem Cq{listed:Array Bool}{i j:Nat}(h:Kc md listed.toList i 0 ops.toList listed.toList=true)(hj:j∈Region.ready md ops listed):j=i:=by
 rw [mem_ready] at hj;obtain ⟨h0,o,ho,ha⟩:=hj;rcases Jr _ _ _ h j o (by simpa using ho) with h1|h1|h1
 ·have h1':listed.getD j true=true:=by simpa using h1
  rw [h0] at h1';cases h1'
 ·omega
 ·refine absurd ?_ (by rw [h1];decide:¬ (o.after.toList.all fun e=>!Region.binds md e || listed.toList.getD e.on false)=true);rw [List.all_eq_true];intro e he
  cases hb:Region.binds md e
  ·rfl
  ·have:=ha e (by simpa using he) hb
   have h2:listed.toList.getD e.on false=true:=by simpa using this
   rw [h2];rfl
theorem B9(listed:Array Bool):(Region.ready md ops listed).Nodup:=List.nodup_range.sublist List.filter_sublist
theorem z0u{listed:Array Bool}{i:Nat}(h:Kc md listed.toList i 0 ops.toList listed.toList=true)(hr:Ou md ops listed i=true):Region.ready md ops listed=[i]:=by
 have h1:=fun j (hj:j∈Region.ready md ops listed)=>Cq h hj;have h2:i∈Region.ready md ops listed:=by simpa using Uo hr
 have h3:=B9 (md:=md) (ops:=ops) listed;generalize Region.ready md ops listed=R at *
 match R,h1,h2,h3 with
 | [],_,h2,_=>cases h2
 | [x],h1,_,_=>rw [h1 x (by simp)]
 | x :: y :: r,h1,_,h3 =>
   have e1:=h1 x (by simp);have e2:=h1 y (by simp);subst e1;subst e2;simp at h3
theorem z0p{listed:Array Bool}(h:Kc md listed.toList ops.size 0 ops.toList listed.toList=true):Region.ready md ops listed=[]:=by
 have h1:=fun j (hj:j∈Region.ready md ops listed)=>Cq h hj;have h4:=fun j (hj:j∈Region.ready md ops listed)=>(mem_ready.1 hj).2;generalize Region.ready md ops listed=R at *
 match R,h1,h4 with
 | [],_,_=>rfl
 | x :: r,h1,h4 =>
   obtain ⟨o,ho,_⟩:=h4 x (by simp)
   have:=h1 x (by simp)
   have:=(Array.getElem?_eq_some_iff.1 ho).1
   omega
def O9(md:Region.Mode)(ops:Array Oper):List (Nat × Bool)->Array Bool->Bool
 | [],listed=>Kc md listed.toList ops.size 0 ops.toList listed.toList
 | (i,true) :: r,listed=>Ou md ops listed i&&Aw md ops listed i&&O9 md ops r (listed.setIfInBounds i true)
 | (i,false) :: r,listed=>Ou md ops listed i&&Kc md listed.toList i 0 ops.toList listed.toList&&O9 md ops r (listed.setIfInBounds i true)
def V5(P:Program)(ops:Array Oper)(S:World->Prop)(Q:Exit->Act->World->Prop):List (Nat × Bool)->Act->World->Prop
 | [],a,w=>Q .normal a w
 | (i,true) :: r,a,w=>∃ o,ops[i]?=some o/\((Region.wanted o (yielded ops a.tmps)=true/\∃ v,(∀ w',S w'->(execOp a.eval o).run P w'=.ok (.value v) w')/\V5 P ops S Q r (a.put o.dst v) w)\/(Region.wanted o (yielded ops a.tmps)=false/\V5 P ops S Q r (a.put o.dst undef) w))
 | (i,false) :: r,a,w=>∃ o,ops[i]?=some o/\if Region.wanted o (yielded ops a.tmps)=true then o.wp P a w (fun a' w'=>S w'/\V5 P ops S Q r a' w') Q else V5 P ops S Q r (a.put o.dst undef) w
theorem Xf(hs:Region.noSelect ops=true)(hQ:∀ c a w d v,Q (.panic c) (a.put d v) w->Q (.panic c) a w) :
 ∀ (l:List (Nat × Bool)) (listed:Array Bool) (a:Act) (w:World),O9 md ops l listed=true->S w->V5 P ops S Q l a w->wpAnyH P md ops Q S l.length listed a w
 | [],listed,a,w,hB,_,h=>by
   unfold O9 at hB;exact wpAnyH_done (z0p hB) h 0
 | (i,true) :: r,listed,a,w,hB,hS,h=>by
   unfold O9 at hB;simp only [Bool.and_eq_true] at hB;obtain ⟨⟨hr,hf⟩,hB'⟩:=hB;unfold V5 at h;obtain ⟨o,ho,h⟩:=h;rcases h with ⟨hw,v,hy,h⟩|⟨hw,h⟩
   ·exact wpAnyH_take ho hs (Ka hf) (Uo hr) (fun c a w=>hQ c a w _ _) (.inl ⟨hw,hy⟩) hS (Xf hs hQ r _ _ w hB' hS h)
   ·exact wpAnyH_take (v:=undef) ho hs (Ka hf) (Uo hr) (fun c a w=>hQ c a w _ _) (.inr ⟨hw,rfl⟩) hS (Xf hs hQ r _ _ w hB' hS h)
 | (i,false) :: r,listed,a,w,hB,hS,h=>by
   unfold O9 at hB;simp only [Bool.and_eq_true] at hB;obtain ⟨⟨hr0,hr1⟩,hB'⟩:=hB;have hr:=z0u hr1 hr0;unfold V5 at h;obtain ⟨o,ho,h⟩:=h;refine wpAnyH_all hr (by simp) ?_;intro j hj;rw [List.mem_singleton] at hj;subst hj;unfold wpOp;simp only [ho]
   split
   ·rename_i hw;rw [if_pos hw] at h;refine .inl ?_;exact (Oper.wp_mono (fun a' w' h'=>⟨h'.1,Xf hs hQ r _ a' w' hB' h'.1 h'.2⟩) h)
   ·rename_i hw;rw [if_neg hw] at h;exact ⟨hS,Xf hs hQ r _ _ w hB' hS h⟩
def wpL(P:Program)(ops:Array Oper)(S:World->Prop)(Q:Exit->Act->World->Prop):List (Option Oper × Bool)->Act->World->Prop
 | [],a,w=>Q .normal a w
 | (none,_) :: _,_,_=>False
 | (some o,true) :: r,a,w=>(Region.wanted o (yielded ops a.tmps)=true/\∃ v,(∀ w',S w'->(execOp a.eval o).run P w'=.ok (.value v) w')/\wpL P ops S Q r (a.put o.dst v) w)\/(Region.wanted o (yielded ops a.tmps)=false/\wpL P ops S Q r (a.put o.dst undef) w)
 | (some o,false) :: r,a,w=>if Region.wanted o (yielded ops a.tmps)=true then o.wp P a w (fun a' w'=>S w'/\wpL P ops S Q r a' w') Q else wpL P ops S Q r (a.put o.dst undef) w
def Cx(ops:Array Oper):List (Nat × Bool)->List (Option Oper × Bool)
 | []=>[]
 | (i,b) :: r=>(ops[i]?,b) :: Cx ops r
theorem Qp:∀ (l:List (Nat × Bool)) (a:Act) (w:World),wpL P ops S Q (Cx ops l) a w->V5 P ops S Q l a w
 | [],_,_,h=>h
 | (i,b) :: r,a,w,h=>by
   unfold Cx at h
   cases ho:ops[i]? with
   | none=>rw [ho] at h;unfold wpL at h;exact h.elim
   | some o =>
     rw [ho] at h
     cases b
     ·unfold wpL at h;unfold V5;refine ⟨o,ho,?_⟩
      split
      ·rename_i hw;rw [if_pos hw] at h;exact Oper.wp_mono (fun a' w' h'=>⟨h'.1,Qp r _ _ h'.2⟩) h
      ·rename_i hw;rw [if_neg hw] at h;exact Qp r _ _ h
     ·unfold wpL at h;unfold V5;refine ⟨o,ho,?_⟩;rcases h with ⟨hw,v,hy,h⟩|⟨hw,h⟩
      ·exact .inl ⟨hw,v,hy,Qp r _ _ h⟩
      ·exact .inr ⟨hw,Qp r _ _ h⟩
theorem Db{id:Nat}{a:Act}{w:World}(sched:List (Nat × Bool))(S:World->Prop)(hm:P.follows .mixedOrders=true)(hs:Region.noSelect ops=true)(hn:sched.length=ops.size)
 (hB:O9 .any ops sched (Array.replicate ops.size false)=true) (hQ:∀ c a w d v,Q (.panic c) (a.put d v) w->Q (.panic c) a w) (hS:S w.drew) (h:∀ L,Cx ops sched=L->wpL P ops S Q L a w.drew):(Code.region id ops true).wp P Q a w:=by
 refine wp_region_held (S:=S) hm ?_;rw [<- hn];rw [<- hn] at hB;exact Xf hs hQ sched _ a w.drew hB hS (Qp _ _ _ (h _ rfl))
theorem z4r{a:Act}{w:World}(h:Q .normal a w):wpL P ops S Q [] a w:=h
theorem Ut{o:Oper}{v:Value}{r:List (Option Oper × Bool)}{a:Act}{w:World}(hw:Region.wanted o (yielded ops a.tmps)=true)(hy:∀ w',S w'->(execOp a.eval o).run P w'=.ok (.value v) w')(h:wpL P ops S Q r (a.put o.dst v) w):wpL P ops S Q ((some o,true) :: r) a w :=
 .inl ⟨hw,v,hy,h⟩
def Way(P:Program)(ops:Array Oper)(S:World->Prop)(Q:Exit->Act->World->Prop)(r:List (Option Oper × Bool))(K':Act->World->Prop):Prop:=∀ a w,S w->wpL P ops S Q r a w->K' a w
theorem Jz{o:Oper}{r:List (Option Oper × Bool)}{a:Act}{w:World}(hw:Region.wanted o (yielded ops a.tmps)=true)(h:∀ K':Act->World->Prop,Way P ops S Q r K'->o.wp P a w K' Q):wpL P ops S Q ((some o,false) :: r) a w:=by
 unfold wpL;rw [if_pos hw];exact h _ (fun a w hS h=>⟨hS,h⟩)
def Up(ops:Array Oper):Bool:=ops.all fun o=>match o.op with|.defer _=>false|_=>true
theorem O3{ops:Array Oper}(h:Up ops=true){i:Nat}{o:Oper}(ho:ops[i]?=some o)(c:Call):o.op≠.defer c:=fun e=>by
 have:=Array.all_eq_true'.1 h o (Array.mem_of_getElem? ho)
 simp [e] at this
theorem z1x{n l:Nat}{o:Oper}(hd:∀ c,o.op≠.defer c){a:Act}{K:Act->World->Prop}{w:World}(h:o.wp P a w K Q):o.wpIn (Fence.wide.inRound l) n P a w K Q:=by
 refine ⟨fun _ _=>trivial,?_⟩;rw [Oper.semAt_eq _ _ _ hd];unfold Oper.wp at h;generalize (execOp a.eval o).run P w=r at *
 cases r with
 | ok x w' =>
   cases x <;> simp only [Oper.upon] at h
   case value v=>exact h
   case skip=>exact h
   case defer d=>exact h
   case enter f args=>exact ⟨fun h=>by simp [Fence.wide] at h,CallsIn.inRound l (callsIn_wide.2 h)⟩
   case row row args=>exact ⟨fun h=>by simp [Fence.wide] at h,fun c cs _=>let ⟨v,w',r,s⟩:=h c cs;⟨v,w',r,stepsIn_wide.2 s⟩⟩
 | halt x w' =>
   cases x <;> simp only [Oper.upon] at h
   case panic u=>exact h
theorem Q5{n l:Nat}(hp:Up ops=true)(hL:¬ LetsOut Q):∀ (fuel:Nat) (listed:Array Bool) (a:Act) (w:World),wpAny P md ops Q fuel listed a w->wpAnyIn (Fence.wide.inRound l) n P md ops Q fuel listed a w
 | 0,_,_,_,h=>h
 | fuel+1,listed,a,w,h=>⟨h.1,fun i hi=>by
   have h2:=h.2 i hi;unfold wpOp at h2;unfold wpOpIn
   cases ho:ops[i]? with
   | none=>rw [ho] at h2;exact Q5 hp hL fuel _ _ _ h2
   | some o =>
     rw [ho] at h2;simp only at h2 ⊢
     split
     ·rename_i hw;rw [if_pos hw] at h2;rcases h2 with h2|h2
      ·exact z1x (O3 hp ho) (Oper.wp_mono (fun a' w' h'=>Q5 hp hL fuel _ a' w' h') h2)
      ·exact absurd h2.2 hL
     ·rename_i hw;rw [if_neg hw] at h2
      exact ⟨fun _ _=>trivial,Q5 hp hL fuel _ _ _ h2⟩⟩
end
end Go.Proofs.YtmehfohpjigmmaaGreatDoor.Sched
namespace Go.Proofs.YtmehfohpjigmmaaGreatDoor
open Zc (Ent Ext KeepC Y5 Z7 Z9 Yw Y1 Za Zl Ya Zp Z6 Zo Z0 Zf)
open Go.RowKit Go.Shelf Sk
attribute [local go_sem] Oper.semAt_some
def y4e(w:World)(E:List En)(e:Ending)(w':World):Prop:=∃ bx r,e=.returned (.func (.func 170) #[] #[.pointer (some ⟨bx,0,none⟩)])/\Blk w' bx 73 #[r]/\w.heap.size<=bx/\Row w' w.heap.size r E/\Bl w w'
theorem z5r(a:Option Addr)(n c:Nat)(w:World):Calls Tryz.prog 155 #[.slice a n c] w fun e w'=>e=.returned (.func (.func 170) #[] #[.pointer (some ⟨w.heap.size,0,none⟩)])/\w'=w.alloc (Obj.cells #[.slice a n c] 73):=by
 go_enter Tryz.func155,Tryz.ntmps155
 go_wp2;go_ret;exact ⟨rfl,rfl⟩
variable {w:World} {b l p q sd:Nat} {D:Nat->Prop} {L:List Nd} {m:ByteArray->Option Int} {n:Dc.Sh} {E:List En}
theorem z0o(W:World)(l:Nat) :
 (nilAhead 469 211 (.pointer (some ⟨l, 0, none⟩)) "Range").run Tryz.prog W = .ok (some false) W := by
 cases hi:Tryz.prog.info? 211 with
 | none=>exact absurd (congrArg Option.isSome hi) (by rw [show (Tryz.prog.info? 211).isSome=true by kernel_rfl];decide)
 | some i =>
   have hm : ((Tryz.prog.info? 211).bind fun i => (i.methods.find? (·.name == "Range")).map fun m => (m.path.toList, m.func)) = some ([{ struct := 237, index := 0, deref := true }], some (273, true)) := by kernel_rfl
   rw [hi] at hm
   cases hf : i.methods.find? (·.name == "Range") with
   | none=>rw [Option.bind_some,hf] at hm;cases hm
   | some mm =>
     rw [Option.bind_some,hf] at hm;simp only [Option.map_some,Option.some.injEq,Prod.mk.injEq] at hm;have hu:=run_underlying (P:=Tryz.prog) Tryz.underlying237;unfold nilAhead;simp [typeInfo,hi,hf,hm.1,hm.2,followBlind,hu,go_sem]
theorem y3g(h:LAt w l p q D sd L m n)(hN:L.length<=100000):Calls Tryz.prog 141 #[.iface 211 (.pointer (some ⟨l,0,none⟩))] w (y4e w (L.map en)):=by
 have HL:=fun W (hb:Bl w W)=>jY (Ov p L rfl (h.later hb).ls.sk);have HR:=fun W (hb:Bl w W)=>jY (y0w (h.later hb).ls hN 0 L.length);have hls:(L.map en).length=L.length:=List.length_map ..;have hsu:z9f (L.map en) 0 (L.length:Int)=L.map en:=by rw [<- hls];exact z9g _
 simp only [hsu] at HR;have HS:=fun W (hb:Bl w W)=>jY (show W.cell? ⟨l,0,none⟩=some (.pointer (some ⟨p,0,none⟩)) from (Zd (h.later hb).blk).1);clear hsu;clear h;have HB0:=jY (show Bl w w.drew from Zn w 1);have HLA:=HL _ HB0.out
 go_enter Tryz.func141,Tryz.ntmps141
 go_wp2_with fail;have S0:=(HS _ HB0.out).out;have hm1:=Cp S0;refine Sched.Db [(0,true),(1,true),(3,true),(4,true),(5,true),(2,false),(6,false),(7,false),(8,true)] (fun W=>W.cell? ⟨l,0,none⟩=some (.pointer (some ⟨p,0,none⟩))) (by kernel_rfl) (by kernel_rfl) rfl (by kernel_rfl) (fun _ _ _ d _ h=>by cases d <;> exact h) S0 ?_;intro L hL;simp only [Sched.Cx,List.getElem?_toArray,List.getElem?_cons_zero,List.getElem?_cons_succ] at hL;subst hL
 repeat (first
  | (refine Sched.Ut (v:=?_) (by rfl) ?_ ?_
     rotate_left
     (focus (intro w' hSw;(try dsimp only at hSw);have hm3:=z0o w' l;go_simp;(try with_reducible rfl);done))
     simp only [Act.put,List.setIfInBounds_toArray,List.set_cons_zero,List.set_cons_succ]))
 refine Sched.Jz (by rfl) fun K' hK=>?_
 go_simp
 go_at_call 272;refine HLA.out.mono ?_;rintro e w1 ⟨rfl,rfl⟩
 have HB1:=HB0;have hm2:=z0h S0;have HRA:=HR _ HB1.out;clear HLA HL HR;refine hK _ _ S0 ?_;clear hK K'
 repeat (first
  | (refine Sched.Ut (v:=?_) (by rfl) ?_ ?_
     rotate_left
     (focus (intro w' hSw;(try dsimp only at hSw);go_simp;(try with_reducible rfl);done))
     simp only [Act.put,List.setIfInBounds_toArray,List.set_cons_zero,List.set_cons_succ]))
 refine Sched.Jz (by rfl) fun K' hK=>?_
 go_simp
 go_at_call 273;refine HRA.out.mono ?_;rintro e w2 ⟨r,rfl,hr,hb⟩
 have HB2:=jY (HB1.out.trans (hb.mono HB1.out.size));have HR2:=jY (hr.mono HB1.out.size);have hz:=HB2.out.size;obtain ⟨ra,rc,rfl⟩:=hr.form;have HV:=jY (z5r ra (L.map en).length rc w2);rw [hls] at HV;have S2:=(HS _ HB2.out).out;clear hb HRA hr;refine hK _ _ S2 ?_;clear hK K'
 repeat (first
  | (refine Sched.Ut (v:=?_) (by rfl) ?_ ?_
     rotate_left
     (focus (intro w' hSw;(try dsimp only at hSw);go_simp;(try with_reducible rfl);done))
     simp only [Act.put,List.setIfInBounds_toArray,List.set_cons_zero,List.set_cons_succ]))
 refine Sched.Jz (by rfl) fun K' hK=>?_
 go_simp
 go_at_call 155;refine HV.out.mono ?_;rintro e w3 ⟨rfl,rfl⟩
 have S3:=(HS _ (HB2.out.alloc hz (.cells #[.slice ra L.length rc] 73))).out;clear HV;refine hK _ _ S3 ?_;clear hK K'
 repeat (first
  | (refine Sched.Ut (v:=?_) (by rfl) ?_ ?_
     rotate_left
     (focus (intro w' hSw;(try dsimp only at hSw);go_simp;(try with_reducible rfl);done))
     simp only [Act.put,List.setIfInBounds_toArray,List.set_cons_zero,List.set_cons_succ]))
 refine Sched.z4r ?_;go_wp2_with fail;go_ret;rw [hls] at HR2;exact ⟨_,_,rfl,Blk.new _ _ _,hz,HR2.out.later (Z5 _ _),HB2.out.alloc hz _⟩
def Ih(_:Nat)(t:Th):Array Value:=#[.string t.key,Yb t]
theorem z4p{W W':World}{rv:Value}{n:Nat}{xs:List Value}{K:List Nat}(h:W.ownsRow 0 Yc 1 rv n xs)(hk:Zc.KeepC Zr.itT K W W')(hK:∀ k∈K,rv.ownBlock≠some k):W'.ownsRow 0 Yc 1 rv n xs:=by
 refine ⟨h.1,?_⟩;rcases h.2 with hn|⟨g,cap,cur,rfl,hb',hg,rest⟩
 ·exact .inl hn
 ·exact .inr ⟨g,cap,cur,rfl,hb',hk.same g cur Yc (fun hm=>hK g hm rfl) (.inr (.inr (.inl rfl))) hg,rest⟩
theorem z2c(p:Nat)(w:World):Calls Tryz.prog 37 #[.pointer (some ⟨p,0,none⟩)] w fun e w'=>∃ bx,e=.returned (.func (.func 61) #[] #[.pointer (some ⟨bx,0,none⟩)])/\Blk w' bx 28 #[.pointer (some ⟨p,0,none⟩)]/\w.heap.size<=bx/\Bl w w':=by
 go_enter Tryz.func37,Tryz.ntmps37
 go_wp2;go_ret;exact ⟨_,rfl,Blk.new _ _ _,Nat.le_refl _,Z5 _ _⟩
theorem Mz(p d sd:Nat)(en mn:Int)(rv:Value)(w:World)(h:Blk w p K7 (spC en mn sd d rv)):Calls Tryz.prog 28 #[.pointer (some ⟨p,0,none⟩)] w fun e w'=>e=.returned (.pointer (some ⟨d,0,none⟩))/\w'=w:=by
 have c3:=h.cell 3;simp [spC] at c3
 go_enter Tryz.func28,Tryz.ntmps28
 go_wp2;go_ret;exact ⟨rfl,rfl⟩
theorem Ub(w:World):Calls Tryz.prog 28 #[.pointer none] w fun e w'=>e=.returned (.pointer none)/\w'=w:=by
 go_enter Tryz.func28,Tryz.ntmps28
 go_wp2;go_ret;exact ⟨rfl,rfl⟩
theorem z2d(L:List Th)(hl:L.length<=100000)(rv:Value)(p d sd:Nat)(en mn:Int)(bx:Nat)(K:List Nat)(w:World)(h1:Blk w bx 28 #[.pointer (some ⟨p,0,none⟩)])(h2:Blk w p K7 (spC en mn sd d rv))
 (hr:w.ownsRow 0 Yc 1 rv L.length (L.map Yb)) (hth:∀ t∈L,Blk w t.q Ud (thC t.s t.toIt)) (hK:∀ k∈K,rv.ownBlock≠some k) (hK2:∀ k∈K,∀ t∈L,t.q≠k) :
 Zc.Kn Zr.itT Tryz.prog 61 #[.pointer (some ⟨bx,0,none⟩)] Ih L K w:=by
 intro y J Jx W hW hJ hJx hY hJ0;have k1:=h1.later hW;have k2:=h2.later hW;have hr1:=Ua hr fun k hk=>by obtain ⟨cc,hb⟩:=Yk hr hk;exact hW.block k hb.lt
 have ht1:=fun t ht=>(hth t ht).later hW;have hform:=U9 hr1;obtain ⟨A,cap,rfl,hlc,_,_⟩:=hform;refine callsIn_of_wp Tryz.func61 rfl trivial ?_ rfl;simp only [Tryz.ntmps61,List.size_toArray,List.length_cons,List.length_nil,Nat.reduceAdd,Nat.reduceSub,Array.replicate_succ,Array.replicate_zero,List.push_toArray,List.append_toArray,List.nil_append,List.cons_append];have HY:=jY hY;have a0:=k1.cell 0;have a4:=k2.cell 4;simp [spC] at a0 a4;have HR1:=jY hr1;have HT1:=jY ht1;clear hY hr hr1 h1 h2 k1 k2 ht1 hth;gi_wp2
 gi_loopw [10] (fun s wr=>∃ (i:Nat),s=.int .i64 i/\i<=L.length/\J i wr/\Hid (wr.ownsRow 0 Yc 1 (.slice A L.length cap) L.length (L.map Yb))/\Hid (∀ t∈L,Blk wr t.q Ud (thC t.s t.toIt)))
  (fun s _=>L.length-(intOf s).toNat)
 case atStart=>exact ⟨0,rfl,by omega,hJ0,HR1,HT1⟩
 case round =>
  clear a0 a4;obtain ⟨i,rfl,hi,hJi,HRW,HTW⟩:=hrel
  by_cases hlt:i<L.length
  ·have hx:L[i]?=some L[i]:=List.getElem?_eq_getElem hlt;obtain ⟨A',cap',h1,_,_,hc⟩:=U9 HRW.out
   cases h1
   obtain ⟨g,rfl,h4,_⟩:=hc i _ hx;have h5:=(HTW.out _ (List.getElem_mem hlt)).cell 1;simp [thC] at h5;obtain ⟨fn,tmps,assign,body,hy,hR⟩:=HY.out i L[i] wr hx hJi;unfold Ih at hy;unfold Yb at h4 hy;generalize L[i]=t at *;have hlt2:(i:Int)<L.length:=by omega
   clear hx hJi hc
   gi_wp2_with fail
   (try refine ⟨fun _=>by decide,?_⟩)
   refine hR.mono ?_;rintro e W3 (⟨rfl,hJ3,hk3⟩|⟨rfl,hJx3⟩)
   ·have R3:=jY (z4p HRW.out hk3 hK);have T3:=jY (show ∀ t∈L,Blk W3 t.q Ud (thC t.s t.toIt) from fun t ht=>hk3.same t.q _ Ud (fun hm=>hK2 _ hm t ht rfl) (.inr (.inr (.inr rfl))) (HTW.out t ht));clear hR hy hk3;gi_wp2;refine ⟨⟨i+1,by go_num,hlt,hJ3,R3,T3⟩,?_⟩;simp only [intOf];omega
   ·gi_wp2;exact bodyPost_ret (v:=.tuple #[]) (by simp [results,Tryz.results61,go_sem]) rfl ⟨⟨_,rfl⟩,.inr ⟨_,hJx3⟩⟩
  ·obtain rfl:i=L.length:=by omega
   have hle:¬ ((L.length:Int)<L.length):=by omega
   have HJ:=jY hJi;clear HRW HTW hJi;gi_wp2
   go_end0
   exact ⟨⟨_,rfl⟩,.inl HJ.out⟩
theorem Bp{sh:Dc.Sh}(h:sh.B=0):sh.step1=sh:=by unfold Dc.Sh.step1;rw [if_pos h]
def y2p(w:World)(F:Nat)(t:Th)(a:Act):Prop:=∃ u0 u1 u2 u4 u5 u6 u7 u8 u12 u13 u14 u15 u16 u17 u18 u19 u20 u21 u22 u23 u24 u25 u26 u27 u28 u29 u30 u31 u32 u33 u34 u35 u36 u37,a={ tmps:=#[u0,u1,u2,.pointer (some ⟨w.heap.size,0,none⟩),u4,u5,u6,u7,u8,.pointer (some ⟨F,0,none⟩),.string t.key,Yb t,u12,u13,u14,u15,u16,u17,u18,u19,u20,u21,u22,u23,u24,u25,u26,u27,u28,u29,u30,u31,u32,u33,u34,u35,u36,u37],defers:=[] }
def z2b(W:World)(p d:Nat)(SD:Nat->Prop)(rv:Value)(en mn:Int)(sd:Nat)(sh:Dc.Sh)(c:Nat)(L:List Th)(W':World):Prop :=
 ∃ SD',SpIn W' p d SD' rv en mn sd (Zw L) sh c L/\(∀ j,SD' j->SD j\/W.heap.size<=j)/\Far SD W W'
theorem Me{L:List Th}(hk:Vd (itl L)){t:Th}(ht:t∈L):Zw L t.key=some ⟨t.q,0,none⟩:=by
 unfold Zw
 have hnd:(L.map fun t=>t.key).Nodup:=by
  have:=hk
  unfold Vd itl at this
  rwa [List.map_map] at this
 clear hk
 induction L with
 | nil=>cases ht
 | cons a r ih =>
   rw [List.map_cons,List.nodup_cons] at hnd;rw [List.find?_cons]
   by_cases e:a.key=t.key
   ·rcases List.mem_cons.1 ht with h|h
    ·subst h;simp
    ·exact absurd (List.mem_map.2 ⟨t,h,e.symm⟩) hnd.1
   ·rcases List.mem_cons.1 ht with h|h
    ·subst h;exact absurd rfl e
    ·simp only [e,decide_false];exact ih h hnd.2
theorem K6{L:List Th}{k:ByteArray}(h:∀ t∈L,t.key≠k):Zw L k=none:=by
 unfold Zw;rw [List.find?_eq_none.2 fun t ht=>by simpa using h t ht];rfl
theorem Uc{L:List Th}{k:ByteArray}{a:Addr}(h:Zw L k=some a):∃ t∈L,t.key=k/\a=⟨t.q,0,none⟩:=by
 unfold Zw at h;obtain ⟨t,ht,rfl⟩:=Option.map_eq_some_iff.1 h;exact ⟨t,List.mem_of_find?_eq_some ht,by simpa using List.find?_some ht,rfl⟩
section
variable {w:World} {p d sd c:Nat} {SD:Nat->Prop} {rv:Value} {en mn:Int} {sh:Dc.Sh} {L:List Th}
theorem Ak(h:SpIn w p d SD rv en mn sd (Zw L) sh c L)(hB:sh.B=0)(hn:sh.n<=1000000)(k:ByteArray)(hk:k.size<=281474976710656) :
 Calls Tryz.prog 26 #[.pointer (some ⟨p,0,none⟩),.string k] w fun e w'=>e=.returned (.tuple #[.pointer (Zw L k),.bool (Zw L k).isSome])/\z2b w p d SD rv en mn sd sh c L w':=by
 have hb0:=Z5 w (.cells #[.string k] 9);have k0:=Blk.new w 9 #[.string k];have h1:=h.later hb0;have HT:=jY (fun W (hb:Below (w.alloc (.cells #[.string k] 9)).heap.size (w.alloc (.cells #[.string k] 9)) W)=>Mz p d sd en mn rv W (h1.later hb).blk);have HS:=jY (Dc.Dt.Bm h1.dict);have HG:=jY (fun W (hb:Below (w.alloc (.cells #[.string k] 9)).heap.size (w.alloc (.cells #[.string k] 9)) W)=>Dc.Dt.Ar h.sd (h1.later hb).dict hn k hk);have HK:=jY (fun W (hb:Below (w.alloc (.cells #[.string k] 9)).heap.size (w.alloc (.cells #[.string k] 9)) W)=>(Z4 (k0.later hb)).1);have HNS:=jY (show ¬ SD w.heap.size from fun hs=>by have:=h.dict.lt _ hs;omega)
 have HF:=jY (fun W (hb:Below (w.alloc (.cells #[.string k] 9)).heap.size (w.alloc (.cells #[.string k] 9)) W) W' (hd:Dc.Dt.IsNow SD W d sd (Zw L) sh.step1 W')=>show z2b w p d SD rv en mn sd sh c L W' from by
  rw [Bp hB] at hd;obtain ⟨g1,g2⟩:=(h1.later hb).dicted hd;have hbw:=hb0.trans (hb.mono hb0.size)
  exact ⟨_,g1,fun j hj=>by
   rcases hj.1 with h|h
   ·exact .inl h
   ·exact .inr (Nat.le_trans hbw.size h),(Far.of_below hbw).trans g2 fun j hj=>.inl hj⟩)
 rw [hB] at HS;clear h h1 hk hn hB k0;have e0:(((0:Nat):Int)==0)=true:=rfl
 go_enter Tryz.func26,Tryz.ntmps26
 go_wp2_with fail;generalize w.alloc (.cells #[.string k] 9)=wb at *;have HTb:=jY (HT.out wb (Below.refl _ _));refine wp_scope_straight ?_;go_wp2_with fail;refine HTb.out.mono ?_;rintro e w1 ⟨rfl,rfl⟩;go_wp2_with fail;refine HS.out.mono ?_;rintro e w2 ⟨rfl,hb2⟩;have hbd:=hb2.trans ((Zn w2 1).mono hb2.size);have HT2:=jY (HT.out w2.drew hbd);have HG2:=jY (HG.out w2.drew hbd);have HF2:=jY (HF.out w2.drew hbd);have S0:w2.drew.cell? ⟨w.heap.size,0,none⟩=some (.string k):=HK.out w2.drew hbd;clear hbd hb2 HS HTb HT HG HF HK;go_wp2_with fail
 go_region_held (fun W=>W.cell? ⟨w.heap.size,0,none⟩=some (.string k)) (first|exact S0|exact S1|assumption)
  (first
    | (go_at_call 28;refine HT2.out.mono ?_;rintro e wn ⟨rfl,rfl⟩)
    | (go_at_call 48;refine HG2.out.mono ?_;rintro e w4 ⟨rfl,hd4⟩
       have H4:=jY (HF2.out w4 hd4);have S1:w4.cell? ⟨w.heap.size,0,none⟩=some (.string k):=(World.cell?_of_block (a:=⟨w.heap.size,0,none⟩) (hd4.2.block w.heap.size (World.block_lt_of_cell? _ _ S0) HNS.out)).trans S0
       clear HG2 HF2 hd4))
 all_goals (
  clear S0;go_wp2_with fail;simp only [Exit.noGoto];go_returns
  exact ⟨rfl,H4.out⟩)
theorem C4(h:SpIn w p d SD rv en mn sd (Zw L) sh c L)(hl:L.length<=100000)(hB:sh.B≠0)(k:ByteArray)(_:k.size<=281474976710656) :
 Calls Tryz.prog 26 #[.pointer (some ⟨p,0,none⟩),.string k] w fun e w'=>e=.returned (.tuple #[.pointer (Zw L k),.bool (Zw L k).isSome])/\Bl w w':=by
 have hb0:=Z5 w (.cells #[.string k] 9);have k0:=Blk.new w 9 #[.string k];have h1:=h.later hb0;have HS:=jY (Dc.Dt.Bm h1.dict);have HA:=fun W=>jY (z2c p W);have e0:((sh.B:Int)==0)=false:=by simp;omega
 have HH:=jY h1;clear h h1;refine (callsIn_wide (n:=6)).1 (callsIn_of_wp_marks Tryz.func26 rfl trivial ?_ rfl);refine wpIn_wide.2 ?_;simp only [Tryz.ntmps26,List.size_toArray,List.length_cons,List.length_nil,Nat.reduceAdd,Nat.reduceSub,Array.replicate_succ,Array.replicate_zero,List.push_toArray,List.append_toArray,List.nil_append,List.cons_append];go_wp2_with fail;generalize w.alloc (.cells #[.string k] 9)=wb at *;have HTb:=jY (Mz p d sd en mn rv wb HH.out.blk);refine wp_scope_straight ?_;go_wp2_with fail;refine HTb.out.mono ?_;rintro e w1 ⟨rfl,rfl⟩;go_wp2_with fail;refine HS.out.mono ?_;rintro e w2 ⟨rfl,hb2⟩;go_wp2_with fail;refine wp_label ?_;go_wp2_with fail;refine (HA _).out.mono ?_;rintro e w3 ⟨bx,rfl,hbx,hbl,hb3⟩;obtain ⟨F,hF⟩:∃ F,F=w2.heap.size:=⟨_,rfl⟩;have hB2:=hb0.trans (hb2.mono hb0.size);have hB3:Bl w w3:=hB2.trans (((Z5 w2 (.cells #[.pointer none] Yc)).trans (hb3.mono (by simp))).mono hB2.size);have kf:Blk w3 F Yc #[.pointer none]:=hF ▸ (Blk.new w2 Yc #[.pointer none]).later hb3;have kk:Blk w3 w.heap.size 9 #[.string k]:=((k0.later hb2).alloc _).later hb3;have h3:=((HH.out.later hb2).later (Z5 w2 (.cells #[.pointer none] Yc))).later hb3
 have hseq:=z2d L hl rv p d sd en mn bx [F] w3 hbx h3.blk h3.row h3.th (fun j hj e=>by
  obtain rfl:j=F:=by simpa using hj
  have:=(HH.out.later hb2).lt (.inr (.inl e));omega) (fun j hj t ht e=>by
  obtain rfl:j=F:=by simpa using hj
  have:=(HH.out.later hb2).lt (.inr (.inr (.inr ⟨t,ht,.inl e.symm⟩)));omega)
 have HKEYS:=jY h3.keys;have hFw:w.heap.size<=F:=by rw [hF];exact hB2.size
 rw [<- hF];clear hbx hbl hb3 h3 hb2 hb0 k0 hF hB2 HS HA HTb HH;go_wp2_with fail
 refine (wpIn_wide (n:=6)).1 (Zc.Xi (gf:=61) (lb:=#[.pointer (some ⟨bx,0,none⟩)]) (encs:=Ih) (xs:=L) (L:=[F]) rfl (enters_of Tryz.func61 (by kernel_rfl) rfl) hseq (fun _ _=>rfl)
  (fun i W=>Bl w W/\Blk W F Yc #[.pointer none]/\Blk W w.heap.size 9 #[.string k]/\Hid (∀ t∈L.take i,t.key≠k))
  (fun c _ W=>c=.exit 0/\Bl w W/\Blk W F Yc #[.pointer (Zw L k)]/\(Zw L k).isSome=true)
  ?hI ?hIx ?h0 (fun _ t a' _=>y2p w F t a') (fun _ _ _=>Z0 _ _) ?assign ?body ?done ?stop)
 case hI=>exact (Z6 _ w (by have:=hB3.size;omega)).and ((Zb _ _ _ _).and ((Zb _ _ _ _).and (Z0 _ _)))
 case hIx=>exact fun c=>(Z0 _ _).and ((Z6 _ w (by have:=hB3.size;omega)).and ((Zb _ _ _ _).and (Z0 _ _)))
 case h0=>exact ⟨hB3,kf,kk,jY (by simp)⟩
 case assign =>
  rintro l i t W K hx' hI hK;clear hseq;unfold Ih;gi_wp2;exact hK _ _ ⟨Nat.le_refl _,fun _ _ _ h _=>h⟩ (Zc.KeepC.refl _ _) hI ⟨_,_,_,_,_,_,_,_,_,_,_,_,_,_,_,_,_,_,_,_,_,_,_,_,_,_,_,_,_,_,_,_,_,_,rfl⟩
 case body =>
  rintro l i t a' W hx' ⟨hb,q0,q1,hno⟩ ⟨u0,u1,u2,u3,u4,u5,u6,u7,u8,u9,u10,u11,u12,u13,u14,u15,u16,u17,u18,u19,u20,u21,u22,u23,u24,u25,u26,u27,u28,u29,u30,u31,u32,u33,rfl⟩;clear hseq;have htm:=Me HKEYS.out (List.mem_of_getElem? hx');obtain ⟨c1,c2⟩:=Z4 q0;obtain ⟨d1,d2⟩:=Z4 q1;have Q0:=jY q0;have Q1:=jY q1;have HB:=jY hb
  by_cases he:t.key=k
  ·have hbeq:(t.key.toList==k.toList)=true:=by rw [he];simp
   rw [he] at htm;have HTM:=jY htm;clear q0 q1 hb hx' hno he htm;unfold Yb;gi_wp2;exact ⟨(KeepsOthers.setCell _ _ _).from _,rfl,HB.out.setCell (p:=⟨F,0,none⟩) hFw _,by rw [HTM.out];exact Q0.out.set 0 _,by rw [HTM.out];rfl⟩
  ·have hbeq:(t.key.toList==k.toList)=false:=by
    rw [Bool.eq_false_iff];intro h;exact he (Xw (by simpa using h))
   have HNO:=jY (show ∀ u∈L.take (i+1),u.key≠k from fun u hu=>by
    obtain ⟨hi,hx2⟩:=List.getElem?_eq_some_iff.1 hx';rw [List.take_succ_eq_append_getElem hi,List.mem_append,List.mem_singleton,hx2] at hu;rcases hu with hu|rfl
    ·exact hno.out u hu
    ·exact he)
   clear q0 q1 hb hx' hno he htm;gi_wp2;exact ⟨⟨Nat.le_refl _,fun _ _ _ h _=>h⟩,Zc.KeepC.refl _ _,HB.out,Q0.out,Q1.out,HNO⟩
 case done =>
  rintro D W hD ⟨hb,q0,q1,hno⟩ hK;rw [List.take_length] at hno;have HN:=jY (K6 hno.out);clear hseq;obtain ⟨c1,c2⟩:=Z4 q0;have HK:=jY hK;have HB:=jY hb;clear hK q0 q1 hb hno;simp only [Exit.inBlock,Exit.then];go_wp2
  go_quiet (fail)
  go_wp2;simp only [Exit.noGoto];refine Zc.Zp (v:=.tuple #[.pointer none,.bool false]) rfl HK.out (by simp [results,Tryz.results26,go_sem]) ⟨by rw [HN.out];rfl,Z9 (HB.out.trans ((Zn W _).mono HB.out.size)) (Nat.le_trans hB3.size hD) _⟩
 case stop =>
  rintro D c j W hD ⟨rfl,hb,q0,hs⟩ hK;clear hseq;obtain ⟨c1,c2⟩:=Z4 q0;have HK:=jY hK;have HB:=jY hb;clear hK q0 hb;refine wpIn_wide.2 ?_;obtain ⟨a,ha⟩:=Option.isSome_iff_exists.1 hs;rw [ha] at c1;have HA:=jY ha;clear hs ha;go_wp2
  go_quiet (fail)
  go_wp2;simp only [Exit.noGoto];refine Zc.Zp (v:=.tuple #[.pointer (some a),.bool true]) rfl HK.out (by simp [results,Tryz.results26,go_sem]) ⟨by rw [HA.out];rfl,Z9 (HB.out.trans ((Zn W _).mono HB.out.size)) (Nat.le_trans hB3.size hD) _⟩
theorem Yd(h:SpIn w p d SD rv en mn sd (Zw L) sh c L)(hn:sh.n<=1000000)(hl:L.length<=100000)(k:ByteArray)(hk:k.size<=281474976710656) :
 Calls Tryz.prog 26 #[.pointer (some ⟨p,0,none⟩),.string k] w fun e w'=>e=.returned (.tuple #[.pointer (Zw L k),.bool (Zw L k).isSome])/\z2b w p d SD rv en mn sd sh c L w':=by
 by_cases hB:sh.B=0
 ·exact Ak h hB hn k hk
 ·exact (C4 h hl hB k hk).mono fun _ _ ⟨he,hb⟩=>⟨he,SD,h.later hb,fun _ h=>.inl h,Far.of_below hb⟩
end
theorem Va(L:List Th)(k:ByteArray):(Yt L k).Sublist L:=by
 unfold Yt
 split
 ·exact List.Sublist.refl _
 ·exact List.eraseIdx_sublist _ _
theorem Vq{L:List Th}(hk:Vd (itl L))(k:ByteArray){t:Th}:t∈Yt L k↔t∈L/\t.key≠k:=by
 have hnd:(L.map fun t=>t.key).Nodup:=by
  have:=hk
  unfold Vd itl at this
  rwa [List.map_map] at this
 unfold Yt
 cases hi:Py L k with
 | none=>exact ⟨fun h=>⟨h,G5 hi t h⟩,fun h=>h.1⟩
 | some i =>
   obtain ⟨hi0,hke⟩:=P7 hi;simp only;rw [List.mem_eraseIdx_iff_getElem]
   constructor
   ·rintro ⟨j,hj,hne,rfl⟩;refine ⟨List.getElem_mem _,fun e=>hne ?_⟩;exact (List.getElem_inj (i:=j) (j:=i) (h₀:=by simpa using hj) (h₁:=by simpa using hi0) hnd).1 (by simp only [List.getElem_map];rw [e,hke])
   ·rintro ⟨h1,h2⟩;obtain ⟨j,hj,rfl⟩:=List.mem_iff_getElem.1 h1;exact ⟨j,hj,fun e=>h2 (by subst e;exact hke),rfl⟩
theorem Fp{L:List Th}(hk:Vd (itl L))(k:ByteArray):itl (Yt L k)=Ms (itl L) k:=by
 unfold Ms;refine (List.Sublist.eq_of_length_le ?_ ?_).symm.symm
 ·have h1:(itl (Yt L k))=(itl (Yt L k)).filter fun x=>decide (x.key≠k):=by
   rw [eq_comm,List.filter_eq_self];intro x hx;obtain ⟨t,ht,rfl⟩:=List.mem_map.1 hx
   simpa using ((Vq hk k).1 ht).2
  rw [h1];exact ((Va L k).map Th.toIt).filter _
 ·have h2:=Ct hk k;unfold Ms at h2;rw [h2];unfold itl Yt
  cases hi:Py L k with
  | none =>
    have:Pv (L.map Th.toIt) k=none:=by
     unfold Pv;rw [List.find?_eq_none];intro x hx;obtain ⟨t,ht,rfl⟩:=List.mem_map.1 hx
     simpa using G5 hi t ht
    rw [this];simp
  | some i =>
    obtain ⟨hi0,hke⟩:=P7 hi
    have:(Pv (L.map Th.toIt) k).isSome=true:=by
     unfold Pv;rw [List.find?_isSome];exact ⟨_,List.mem_map.2 ⟨_,List.getElem_mem hi0,rfl⟩,by simpa using hke⟩
    rw [this,if_pos rfl];simp only [List.length_map,List.length_eraseIdx,if_pos hi0];exact Nat.le_refl _
theorem z3r(L:List Th)(k:ByteArray):(Pv (itl L) k).isSome=(Zw L k).isSome:=by
 unfold Pv Zw itl;rw [List.find?_map];simp [Function.comp_def]
theorem Qm{L:List Th}(hk:Vd (itl L))(k:ByteArray):(Yt L k).length=if (Zw L k).isSome then L.length-1 else L.length:=by
 have h:=Ct hk k;rw [<- Fp hk k,z3r] at h;unfold itl at h
 simpa using h
theorem I7{L:List Th}(hk:Vd (itl L))(k:ByteArray):Zw (Yt L k)=Dc.Dt.Df (Zw L) k:=by
 funext k'
 unfold Dc.Dt.Df
 by_cases e:k'=k
 ·rw [if_pos e];subst e;exact K6 fun t ht=>((Vq hk k').1 ht).2
 ·rw [if_neg e]
  cases h:Zw L k' with
  | none =>
    refine K6 fun t ht e2=>?_
    have:=Me hk ((Vq hk k).1 ht).1
    rw [e2,h] at this
    cases this
  | some a =>
    obtain ⟨t,ht,rfl,rfl⟩:=Uc h;refine Me ?_ ((Vq hk k).2 ⟨ht,e⟩);rw [Fp hk k];exact Cf hk k
theorem z5i{L:List Th}{t:Th}(h:∀ u∈L,u.key≠t.key):Zw (L++[t])=Dc.Dt.B7 (Zw L) t.key ⟨t.q,0,none⟩:=by
 funext k
 unfold Dc.Dt.B7 Zw;rw [List.find?_append,List.find?_singleton]
 by_cases e:k=t.key
 ·rw [if_pos e];subst e;rw [List.find?_eq_none.2 fun u hu=>by simpa using h u hu];simp
 ·rw [if_neg e]
  have:t.key≠k:=fun h=>e h.symm
  simp [this]
section
variable {W W' w w':World} {p d sd c:Nat} {SD:Nat->Prop} {rv rv':Value} {en mn:Int} {m:ByteArray->Option Addr} {sh:Dc.Sh} {L L':List Th} {t:Th}
def Pj(p:Nat)(SD:Nat->Prop)(rv:Value)(k:Nat):Prop:=rv.ownBlock=some k\/k=p\/SD k
theorem SpIn.own_no(h:SpIn w p d SD rv en mn sd m sh c L){j ty:Nat}{cc:Array Value}(hj:Blk w j ty cc)(ht:ty ∉ Yc :: K7 :: y4k):¬ Pj p SD rv j:=fun hs=>by
 rcases hs with hk|rfl|hk
 ·obtain ⟨cc,hb⟩:=Yk h.row hk;exact ht (by rw [hj.ty hb];decide)
 ·exact ht (by rw [hj.ty h.blk];decide)
 ·exact U2 h.dict hj (fun e=>ht (by simp [e])) hk
theorem SpIn.own_set(h:SpIn w p d SD rv en mn sd m sh c L){s c1:Nat}{S:Nat->Prop}{isL:Bool}{le lm:Int}{E:List En}(hs:SetIs w s S isL le lm c1 E){j:Nat}(hj:S j):¬ Pj p SD rv j:=fun ho=>by
 rcases ho with hk|rfl|hk
 ·obtain ⟨cc,hb⟩:=Yk h.row hk;exact Mx hs hb (by decide) hj
 ·exact Mx hs h.blk (by decide) hj
 ·obtain ⟨t',c',ht',hb⟩:=h.dict.cells j hk;exact Mx hs (show Blk w j t' c' from hb) (by rcases ht' with rfl|rfl|rfl <;> decide) hj
theorem SpIn.rowed(h:SpIn w p d SD rv en mn sd m sh c L)(hs:L'.Sublist L)(hf:Far (fun j=>rv.ownBlock=some j) w W)(hr:W.ownsRow 0 Yc 1 rv' L'.length (L'.map Yb)) :
 SpIn (W.setCell ⟨p,4,none⟩ rv') p d SD rv' en mn sd m sh c L'/\Far (fun j=>rv.ownBlock=some j\/j=p) w (W.setCell ⟨p,4,none⟩ rv'):=by
 have hF:Far (fun j=>rv.ownBlock=some j\/j=p) w (W.setCell ⟨p,4,none⟩ rv'):=(hf.mono fun _ h=>.inl h).set ⟨p,4,none⟩ rv' (.inl (.inr rfl));have hno:∀ {j:Nat},¬ Pj p SD rv j->¬ (rv.ownBlock=some j\/j=p):=fun hn h=>hn (h.elim .inl fun e=>.inr (.inl e))
 have hb:Blk W p K7 (spC en mn sd d rv):=hf.blk h.blk fun e=>by
  obtain ⟨cc,hb⟩:=Yk h.row e;exact absurd (h.blk.ty hb) (by decide)
 refine ⟨⟨?_,Ua hr fun k hk=>Below.heap_setCell _ _ _ _ fun e=>?_,h.dict.far (z5j hF) fun k hk e=>?_,fun t ht=>hF.blk (h.th t (hs.subset ht)) (hno (h.own_no (h.th t (hs.subset ht)) (by decide))),
  fun t ht=>(h.set t (hs.subset ht)).far hF fun k hk=>hno (h.own_set (h.set t (hs.subset ht)) hk),?_,(hs.map _).nodup h.qs,h.apart.sublist hs,fun t ht=>h.ksz t (hs.subset ht),fun t ht=>h.use t (hs.subset ht),h.sd⟩,hF⟩
 ·have:=hb.set 4 rv'
  simpa [spC] using this
 ·subst e;obtain ⟨cc,hb'⟩:=Yk hr hk;exact absurd (hb.ty hb') (by decide)
 ·rcases e with e|rfl
  ·obtain ⟨cc,hb'⟩:=Yk h.row e;exact U2 h.dict hb' (by decide) hk
  ·exact U2 h.dict h.blk (by decide) hk
 ·unfold Vd itl;rw [List.map_map]
  have:=h.keys
  unfold Vd itl at this;rw [List.map_map] at this;exact (hs.map _).nodup this
end
theorem Ia{w:World}{p d sd c:Nat}{SD:Nat->Prop}{rv:Value}{en mn:Int}{m:ByteArray->Option Addr}{sh:Dc.Sh}{L:List Th}(h:SpIn w p d SD rv en mn sd m sh c L)(hl:L.length<=100000)(k:ByteArray) :
 Calls Tryz.prog 43 #[.pointer (some ⟨p,0,none⟩),.string k] w fun e w'=>e=.returned (.tuple #[])/\∃ rv',rv'.ownBlock=rv.ownBlock/\SpIn w' p d SD rv' en mn sd m sh c (Yt L k)/\Far (fun j=>rv.ownBlock=some j\/j=p) w w':=by
 have hb0:=Z5 w (.cells #[.string k] 9);have h1:=h.later hb0;have HD:=jY (z6l L h.keys rv k w.heap.size hl (w.alloc (.cells #[.string k] 9)) h1.row h1.th (Blk.new w 9 #[.string k]));have a4:=h1.blk.cell 4;simp [spC] at a4;have H1:=jY h1;have HB:=jY hb0;clear h h1 hb0
 go_enter Tryz.func43,Tryz.ntmps43
 go_wp2_with fail;refine HD.out.mono ?_;rintro e w2 ⟨rv',rfl,hob,hr,hf⟩
 have hbl:Blk w2 p K7 (spC en mn sd d rv):=hf.blk H1.out.blk fun e=>by
  obtain ⟨cc,hb⟩:=Yk H1.out.row e;exact absurd (H1.out.blk.ty hb) (by decide)
 have b4:=hbl.cell 4;simp [spC] at b4;have f4:=hbl.free 4;have HR:=jY (H1.out.rowed (Va L k) hf hr);obtain ⟨A,cap,hrv,_⟩:=U9 hr;subst hrv;have HO:=jY hob;clear hf hr hbl HD a4;go_wp2;go_returns;exact ⟨rfl,_,HO.out,HR.out.1,(Far.of_below HB.out).trans HR.out.2 fun j hj=>.inl hj⟩
structure Loose (W:World) (en mn:Int) (c:Nat) (L:List Th) (t:Th):Prop where
 th:Blk W t.q Ud (thC t.s t.toIt)
 set:SetIs W t.s t.S t.isL (Zj en 200) (Zj mn 64) c t.E
 q:∀ u∈L,u.q≠t.q
 apart:∀ u∈L,∀ k,u.S k->¬ t.S k
 use:Lf.z9v (t.uc,t.ua)
section
variable {W W' w w':World} {p d sd c:Nat} {SD:Nat->Prop} {rv rv':Value} {en mn:Int} {m:ByteArray->Option Addr} {sh:Dc.Sh} {L L':List Th} {t:Th}
theorem Loose.far{S1:Nat->Prop}(h:Loose W en mn c L t)(hf:Far S1 W W')(h1:¬ S1 t.q)(h2:∀ k,t.S k->¬ S1 k):Loose W' en mn c L t :=
 ⟨hf.blk h.th h1,h.set.far hf h2,h.q,h.apart,h.use⟩
theorem Loose.later(h:Loose W en mn c L t)(hb:Bl W W'):Loose W' en mn c L t:=h.far (S1:=fun _=>False) (Far.of_below hb) (fun h=>h) fun _ _ h=>h
theorem Loose.sub(h:Loose W en mn c L t)(hs:L'.Sublist L):Loose W en mn c L' t:=⟨h.th,h.set,fun u hu=>h.q u (hs.subset hu),fun u hu=>h.apart u (hs.subset hu),h.use⟩
theorem SpIn.loose(h:SpIn w p d SD rv en mn sd m sh c L)(ht:Loose w en mn c L' t)(hf:Far (Pj p SD rv) w w'):Loose w' en mn c L' t :=
 ht.far hf (h.own_no ht.th (by decide)) fun k hk=>h.own_set ht.set hk
theorem SpIn.taken(h:SpIn w p d SD rv en mn sd m sh c L)(ht:t∈L):Loose w en mn c (Yt L t.key) t:=by
 have hne:∀ u∈Yt L t.key,u∈L/\u.key≠t.key:=fun u hu=>(Vq h.keys t.key).1 hu;refine ⟨h.th t ht,h.set t ht,fun u hu e=>?_,fun u hu k hk hk2=>?_,h.use t ht⟩
 ·obtain ⟨h1,h2⟩:=hne u hu;obtain ⟨i,hi,rfl⟩:=List.mem_iff_getElem.1 h1;obtain ⟨j,hj,rfl⟩:=List.mem_iff_getElem.1 ht
  have:=(List.getElem_inj (i:=i) (j:=j) (h₀:=by simpa using hi) (h₁:=by simpa using hj) h.qs).1 (by simpa using e)
  subst this;exact h2 rfl
 ·obtain ⟨h1,h2⟩:=hne u hu;obtain ⟨i,hi,rfl⟩:=List.mem_iff_getElem.1 h1;obtain ⟨j,hj,rfl⟩:=List.mem_iff_getElem.1 ht;rcases Nat.lt_trichotomy i j with hij|hij|hij
  ·exact List.pairwise_iff_getElem.1 h.apart i j hi hj hij k hk hk2
  ·subst hij;exact h2 rfl
  ·exact List.pairwise_iff_getElem.1 h.apart j i hj hi hij k hk2 hk
def z5y(w:World)(p d:Nat)(SD:Nat->Prop)(rv:Value)(en mn:Int)(sd:Nat)(m:ByteArray->Option Addr)(sh:Dc.Sh)(c:Nat)(L:List Th)(k:ByteArray)(w':World):Prop :=
 ∃ rv' SD' sh',SpIn w' p d SD' rv' en mn sd (Dc.Dt.Df m k) sh' c (Yt L k)/\(sh'.n=(if (m k).isSome then sh.n-1 else sh.n)/\(sh.low->sh.n<=500->sh'.low))/\(∀ j,Pj p SD' rv' j->Pj p SD rv j\/w.heap.size<=j)/\Far (Pj p SD rv) w w'
theorem z6o(h:SpIn w p d SD rv en mn sd m sh c L)(hl:L.length<=100000)(hn:sh.n<=1000000)(k:ByteArray)(hk:k.size<=281474976710656) :
 Calls Tryz.prog 24 #[.pointer (some ⟨p,0,none⟩),.string k] w fun e w'=>e=.returned (.tuple #[])/\z5y w p d SD rv en mn sd m sh c L k w':=by
 have HU:=jY (Ia h hl k);have hsd:=h.sd
 have HF:=jY (fun w1 rv1 (hob:rv1.ownBlock=rv.ownBlock) (h1:SpIn w1 p d SD rv1 en mn sd m sh c (Yt L k)) (hf:Far (fun j=>rv.ownBlock=some j\/j=p) w w1) w2 (hd:Dc.Dt.IsNow SD w1 d sd (Dc.Dt.Df m k) (sh.del (m k).isSome) w2)=>show z5y w p d SD rv en mn sd m sh c L k w2 from by
  obtain ⟨g1,g2⟩:=h1.dicted hd;refine ⟨_,_,_,g1,?_,fun j hj=>?_,(hf.mono (S1:=Pj p SD rv) fun j hj=>hj.elim .inl fun e=>.inr (.inl e)).trans g2 fun j hj=>.inl (.inr (.inr hj))⟩
  ·exact ⟨by rw [Dc.y1t];cases (m k).isSome <;> rfl,fun hs hn=>Dc.y0y hs hn _⟩
  ·rcases hj with hj|hj|hj
   ·rw [hob] at hj;exact .inl (.inl hj)
   ·exact .inl (.inr (.inl hj))
   ·rcases hj.1 with h|h
    ·exact .inl (.inr (.inr h))
    ·exact .inr (Nat.le_trans hf.size h))
 clear h
 go_enter Tryz.func24,Tryz.ntmps24
 go_wp2_with fail;refine HU.out.mono ?_;rintro e w1 ⟨rfl,rv1,hob,h1,hf⟩;have a3:=h1.blk.cell 3;simp [spC] at a3;have HD:=jY (Dc.Dt.y2x hsd h1.dict hn k hk);have HF1:=jY (HF.out w1 rv1 hob h1 hf);clear HF h1 hf hob HU;go_wp2_with fail;refine HD.out.mono ?_;rintro e w2 ⟨rfl,hd,_⟩;have HE:=jY (HF1.out w2 hd);clear hd HF1 HD;go_wp2;go_returns;exact ⟨rfl,HE.out⟩
end
theorem y3d:(Tryz.prog.info? 56).map (fun i=>(i.zero,i.size,i.bytes))=some (some (.pointer none),1,8):=by kernel_rfl
theorem z9x{W W6:World}{rv:Value}{L:List Th}(hr:W.ownsRow 0 Yc 1 rv L.length (L.map Yb))(hb:Bl W W6)(t:Th)(hl:L.length<=1000000) :
 ∃ gg cap' W7,(Builtin.append_ #[53,53] 53 #[rv,.slice (some ⟨W6.heap.size,0,none⟩) 1 1]).run Tryz.prog (W6.alloc (.cells #[Yb t] Yc))=.ok (.slice (some ⟨gg,0,none⟩) (L.length+1) cap') W7 /\
  W7.ownsRow 0 Yc 1 (.slice (some ⟨gg,0,none⟩) (L.length+1) cap') (L++[t]).length ((L++[t]).map Yb)/\(W6.alloc (.cells #[Yb t] Yc)).grownBy W7 rv.ownBlock/\(rv.ownBlock=some gg\/gg=W6.heap.size+1):=by
 obtain ⟨i0,hi0,hz0,hz1,hz2⟩:=info_parts y3d;have hB:Bl W (W6.alloc (.cells #[Yb t] Yc)):=hb.trans ((Z5 W6 _).mono hb.size);have hk:(W6.alloc (.cells #[Yb t] Yc)).ownsRow 0 Yc 1 rv L.length (L.map Yb):=Ua hr fun k hk=>by obtain ⟨cc,hc⟩:=Yk hr hk;exact hB.block k hc.lt
 obtain ⟨v',w',hrun,r1,r2,r3,r4⟩:=run_append_own_at (P:=Tryz.prog) (W6.alloc (.cells #[Yb t] Yc)) 0 53 53 Yc i0 _ 1 8 Tryz.underlying53 hi0 hz0 hz1 hz2 rfl (by decide) rv _ _ hk ⟨W6.heap.size,0,none⟩ 1 1 [Yb t] rfl
  (World.news_of_block (cs:=#[Yb t]) (t:=Yc) (fr:=(0,0)) (heap_alloc_new _ _)) (fun u hu=>by simp at hu;subst hu;rfl) (by unfold maxLen;omega) (by omega) (Nat.zero_le _)
 rcases r1.2 with ⟨rfl,h0⟩|⟨gg,cap',cur,rfl,_⟩
 ·omega
 ·refine ⟨gg,cap',w',hrun,?_,r2,?_⟩
  ·rw [List.map_append,List.length_append];exact r1
  ·rcases r4 with h|h
   ·exact .inl h.symm
   ·right;simp [Value.ownBlock] at h;omega
section
variable {W W' w w':World} {p d sd c:Nat} {SD:Nat->Prop} {rv rv':Value} {en mn:Int} {m:ByteArray->Option Addr} {sh:Dc.Sh} {L L':List Th} {t:Th}
theorem SpIn.loose_no(h:SpIn w p d SD rv en mn sd m sh c L)(ht:Loose w en mn c L' t)(hq:∀ u∈L,u.q≠t.q):¬ spS p SD rv L t.q:=fun hs=>by
 rcases hs with e|hk|hk|⟨u,hu,e|hk⟩
 ·have:=ht.th;rw [e] at this;exact absurd (this.ty h.blk) (by decide)
 ·obtain ⟨cc,hb⟩:=Yk h.row hk;exact absurd (ht.th.ty hb) (by decide)
 ·exact U2 h.dict ht.th (by decide) hk
 ·exact hq u hu e.symm
 ·exact Mx (h.set u hu) ht.th (by decide) hk
def Th.named(t:Th)(k:ByteArray):Th:={ t with toIt:=t.toIt.named k }
theorem Loose.key(ht:Loose W en mn c L t)(k:ByteArray):Loose (W.setCell ⟨t.q,1,none⟩ (.string k)) en mn c L (t.named k)/\Far (fun j=>j=t.q) W (W.setCell ⟨t.q,1,none⟩ (.string k)):=by
 have hf:Far (fun j=>j=t.q) W (W.setCell ⟨t.q,1,none⟩ (.string k)):=(Far.refl _ _).set ⟨t.q,1,none⟩ _ (.inl rfl);refine ⟨⟨?_,ht.set.far hf fun j hj e=>by subst e;exact Mx ht.set ht.th (by decide) hj,ht.q,ht.apart,ht.use⟩,hf⟩
 have:=ht.th.set 1 (.string k)
 show Blk _ t.q Ud (thC t.s (t.toIt.named k))
 simpa [thC,It.named] using this
theorem SpIn.added(h:SpIn w p d SD rv en mn sd m sh c L)(ht:Loose w en mn c L t)(hkey:∀ u∈L,u.key≠t.key)(hk:t.key.size<=64)(hf:Far (fun j=>rv.ownBlock=some j) w W)(hr:W.ownsRow 0 Yc 1 rv' (L++[t]).length ((L++[t]).map Yb)) :
 SpIn (W.setCell ⟨p,4,none⟩ rv') p d SD rv' en mn sd m sh c (L++[t])/\Far (fun j=>rv.ownBlock=some j\/j=p) w (W.setCell ⟨p,4,none⟩ rv'):=by
 have hF:Far (fun j=>rv.ownBlock=some j\/j=p) w (W.setCell ⟨p,4,none⟩ rv'):=(hf.mono fun _ h=>.inl h).set ⟨p,4,none⟩ rv' (.inl (.inr rfl));have hno:∀ {j:Nat},¬ Pj p SD rv j->¬ (rv.ownBlock=some j\/j=p):=fun hn h=>hn (h.elim .inl fun e=>.inr (.inl e))
 have hb:Blk W p K7 (spC en mn sd d rv):=hf.blk h.blk fun e=>by
  obtain ⟨cc,hb⟩:=Yk h.row e;exact absurd (h.blk.ty hb) (by decide)
 have hmem:∀ u∈L++[t],u∈L\/u=t:=fun u hu=>by simpa using hu
 refine ⟨⟨?_,Ua hr fun k hk=>Below.heap_setCell _ _ _ _ fun e=>?_,h.dict.far (z5j hF) fun k hk e=>?_,fun u hu=>?_,fun u hu=>?_,?_,?_,?_,fun u hu=>?_,fun u hu=>?_,h.sd⟩,hF⟩
 ·have:=hb.set 4 rv'
  simpa [spC] using this
 ·subst e;obtain ⟨cc,hb'⟩:=Yk hr hk;exact absurd (hb.ty hb') (by decide)
 ·rcases e with e|rfl
  ·obtain ⟨cc,hb'⟩:=Yk h.row e;exact U2 h.dict hb' (by decide) hk
  ·exact U2 h.dict h.blk (by decide) hk
 ·rcases hmem u hu with hu|rfl
  ·exact hF.blk (h.th u hu) (hno (h.own_no (h.th u hu) (by decide)))
  ·exact hF.blk ht.th (hno (h.own_no ht.th (by decide)))
 ·rcases hmem u hu with hu|rfl
  ·exact (h.set u hu).far hF fun k hk=>hno (h.own_set (h.set u hu) hk)
  ·exact ht.set.far hF fun k hk=>hno (h.own_set ht.set hk)
 ·unfold itl;rw [List.map_append];refine z3w h.keys ?_;unfold Pv;rw [List.find?_eq_none];intro x hx;obtain ⟨u,hu,rfl⟩:=List.mem_map.1 hx
  simpa using hkey u hu
 ·rw [List.map_append,List.nodup_append];refine ⟨h.qs,by simp,fun a ha b hb=>?_⟩;obtain ⟨u,hu,rfl⟩:=List.mem_map.1 ha;obtain rfl:b=t.q:=by simpa using hb
  exact ht.q u hu
 ·rw [List.pairwise_append];refine ⟨h.apart,by simp,fun u hu v hv=>?_⟩;obtain rfl:v=t:=by simpa using hv
  exact ht.apart u hu
 ·rcases hmem u hu with hu|rfl
  ·exact h.ksz u hu
  ·exact hk
 ·rcases hmem u hu with hu|rfl
  ·exact h.use u hu
  ·exact ht.use
def Bz(w:World)(p d:Nat)(SD:Nat->Prop)(rv:Value)(en mn:Int)(sd:Nat)(m:ByteArray->Option Addr)(sh:Dc.Sh)(c:Nat)(L:List Th)(k:ByteArray)(t:Th)(w':World):Prop :=
 ∃ rv' SD' sh',SpIn w' p d SD' rv' en mn sd (Dc.Dt.B7 m k ⟨t.q,0,none⟩) sh' c (Yt L k++[t.named k])/\(sh'.n=(if (m k).isSome then sh.n else sh.n+1)/\(sh.low->sh.n<=500->sh'.low))/\(∀ j,Pj p SD' rv' j->Pj p SD rv j\/w.heap.size<=j)/\Far (fun j=>Pj p SD rv j\/j=t.q) w w'
theorem z7d(h:SpIn w p d SD rv en mn sd m sh c L)(ht:Loose w en mn c L t)(hl:L.length<=100000)(hn:sh.n+1<=1000000)(k:ByteArray)(hk:k.size<=64) :
 Calls Tryz.prog 25 #[.pointer (some ⟨p,0,none⟩),.string k,.pointer (some ⟨t.q,0,none⟩)] w fun e w'=>e=.returned (.tuple #[])/\Bz w p d SD rv en mn sd m sh c L k t w':=by
 have HU:=jY (Ia h hl k);have hsd:=h.sd;have hkeys:=h.keys;have hrl:(Yt L k).length<=1000000:=Nat.le_trans (Va L k).length_le (by omega);have HC:=fun W=>jY (Dc.U5 k (by omega) W);have HW:=jY (show (∀ j,Pj p SD rv j->j<w.heap.size)/\t.q<w.heap.size from ⟨fun j hj=>h.lt (hj.elim (fun e=>.inr (.inl e)) fun e=>e.elim .inl fun e=>.inr (.inr (.inl e))),ht.th.lt⟩);have HL1:=jY (fun w1 (hf:Far (fun j=>rv.ownBlock=some j\/j=p) w w1)=>(h.loose ht (hf.mono fun j hj=>hj.elim .inl fun e=>.inr (.inl e))).sub (Va L k));have HNE:=jY (fun u (hu:u∈Yt L k)=>((Vq hkeys k).1 hu).2);clear h ht hkeys
 go_enter Tryz.func25,Tryz.ntmps25
 go_wp2_with fail;refine HU.out.mono ?_;rintro e w1 ⟨rfl,rv1,hob,h1,hf1⟩;have hl1:=HL1.out w1 hf1;have H1:=jY h1;have L1:=jY hl1;have F1:=jY hf1;have HOB:=jY hob;clear h1 hl1 hf1 HU HL1 hob;go_wp2_with fail;refine (HC _).out.mono ?_;rintro e w2 ⟨rfl,hb2⟩;have hl2:=L1.out.later hb2;have h2:=H1.out.later hb2;have x1:=hl2.th.cell 1;have y1:=hl2.th.free 1;simp [thC] at x1;have hl3:=hl2.key k;have h3:=h2.far hl3.2 fun j hj e=>by subst e;exact h2.loose_no hl2 hl2.q hj
 have a4:=h3.blk.cell 4;have a3:=h3.blk.cell 3;have b4:=h3.blk.free 4;simp [spC] at a4 a3;have H3:=jY h3;have L3:=jY hl3.1;have F3:=jY ((F1.out.then_below hb2).mono (S1:=fun j=>Pj p SD rv j\/j=t.q) (fun j hj=>.inl (hj.elim .inl fun e=>.inr (.inl e))) |>.trans hl3.2 fun j hj=>.inl (.inr hj));clear h2 h3 hl2 hl3 hb2 H1 L1 F1 HC
 go_upto_region 2 with fail
 generalize w2.setCell ⟨t.q,1,none⟩ (.string k)=W3 at *;obtain ⟨gg,cap',W7,hrun,hr7,hg7,hgg⟩:=z9x H3.out.row (Below.refl _ _) (t.named k) hrl;rw [show Yb (t.named k)=.pointer (some ⟨t.q,0,none⟩) from rfl] at hrun hg7;have hf7:Far (fun j=>rv1.ownBlock=some j) W3 W7:=(Far.of_below (Z5 _ (.cells #[.pointer (some ⟨t.q,0,none⟩)] Yc))).trans (z0t (Dc.Far.of_grown hg7 fun k hk=>.inl hk)) fun j hj=>.inl hj;have h7:=H3.out.added L3.out HNE.out hk hf7 hr7
 have hpb:Blk W7 p K7 (spC en mn sd d rv1):=hf7.blk H3.out.blk fun e=>by
  obtain ⟨cc,hb⟩:=Yk H3.out.row e;exact absurd (H3.out.blk.ty hb) (by decide)
 have c4:=hpb.cell 4;have d4:=hpb.free 4;simp [spC] at c4;have e3:=h7.1.blk.cell 3;simp [spC] at e3;have HST:=jY (Dc.Dt.z1j hsd h7.1.dict hn k (by omega) ⟨t.q,0,none⟩);have H7:=jY h7.1
 have F7:=jY (F3.out.trans (h7.2) fun j hj=>by
  rcases hj with hj|rfl
  ·exact .inl (.inl (.inl (by rw [<- HOB.out];exact hj)))
  ·exact .inl (.inl (.inr (.inl rfl))))
 have HGG:=jY (show ∀ j,Value.ownBlock (.slice (some ⟨gg,0,none⟩) ((Yt L k).length+1) cap')=some j->rv.ownBlock=some j\/w.heap.size<=j from fun j hj=>by
  obtain rfl:gg=j:=by simpa [Value.ownBlock] using hj
  rcases hgg with h|h
  ·exact .inl (by rw [<- HOB.out];exact h)
  ·have:=F3.out.size;exact .inr (by omega))
 obtain ⟨A1,cap1,hrv1,_⟩:=U9 H3.out.row;subst hrv1;clear hg7 hf7 h7 hpb hgg hr7
 go_wp2_with (at_builtin;refine Pk.Xr rfl _ _ 53 53 rfl rfl rfl hrun ?_;clear hrun)
 refine HST.out.mono ?_;rintro e w8 ⟨rfl,hd⟩
 have HE:=jY (show Bz w p d SD rv en mn sd m sh c L k t w8 from by
  obtain ⟨g1,g2⟩:=H7.out.dicted hd;refine ⟨_,_,_,g1,?_,fun j hj=>?_,F7.out.trans g2 fun j hj=>.inl (.inl (.inr (.inr hj)))⟩
  ·exact ⟨by rw [Dc.z2x];cases (m k).isSome <;> rfl,fun hs hn=>Dc.y0z hs hn _⟩
  ·rcases hj with hj|hj|hj
   ·exact (HGG.out j hj).elim (fun h=>.inl (.inl h)) .inr
   ·exact .inl (.inr (.inl hj))
   ·rcases hj.1 with h|h
    ·exact .inl (.inr (.inr h))
    ·exact .inr (Nat.le_trans F7.out.size h))
 clear hd HST H7 F7 HGG;go_wp2;go_returns;exact ⟨rfl,HE.out⟩
end
end Go.Proofs.YtmehfohpjigmmaaGreatDoor

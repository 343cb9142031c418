/- Texts of one kind in one: Sched, ZThru, SpAll, SpFind, SpKeep, SpPut, y0h. -/
import Derived.Test.YtcklcmafohlflaaGreatDoorQErReflect25
set_option maxRecDepth 200000
set_option maxHeartbeats 8000000
namespace Go.Proofs.YtcklcmafohlflaaGreatDoor.Sched
open Zc
open Go
section
variable {P:Program} {ops:Array Oper} {Q:Exit->Act->World->Prop} {md:Region.Mode} {S:World->Prop}
def F5(md:Region.Mode)(ops:Array Oper)(listed:Array Bool)(i:Nat):Bool :=
 match ops[i]? with
 | some o=>!listed.toList.getD i true&&o.after.toList.all fun e=>!Region.binds md e || listed.toList.getD e.on false
 | none=>false
theorem Mm{listed:Array Bool}{i:Nat}(h:F5 md ops listed i=true):(Region.ready md ops listed).contains i=true:=by
 unfold F5 at h
 cases ho:ops[i]? with
 | none=>rw [ho] at h;cases h
 | some o =>
   rw [ho] at h;simp only [Bool.and_eq_true,Bool.not_eq_true',List.all_eq_true,Bool.or_eq_true] at h;rw [List.contains_iff_mem,mem_ready];refine ⟨by simpa using h.1,o,ho,fun e he hb=>?_⟩;rcases h.2 e (by simpa using he) with h2|h2
   ·rw [hb] at h2;cases h2
   ·simpa using h2
def y5e(md:Region.Mode)(ops:Array Oper)(oi:Oper)(i:Nat):Nat->List Oper->List Bool->Bool
 | j,oj :: r,l :: lr=>(l || j==i || oj.after.toList.any (fun e=>Region.binds md e&&e.on==i) || oi.apart ops oj)&&y5e md ops oi i (j+1) r lr
 | _,_,_=>true
theorem A9{oi:Oper}{i:Nat}:∀ (r:List Oper) (l:List Bool) (j:Nat),y5e md ops oi i j r l=true->∀ k oj,r[k]?=some oj->l.getD k true=true\/j+k=i\/oj.after.any (fun e=>Region.binds md e&&e.on==i)=true\/oi.apart ops oj=true
 | [],_,_,_,k,oj,hk=>by simp at hk
 | o :: r,[],_,_,k,oj,hk=>.inl (by simp)
 | o :: r,b :: l,j,h,k,oj,hk=>by
   unfold y5e at h;simp only [Bool.and_eq_true,Bool.or_eq_true,beq_iff_eq] at h
   cases k with
   | zero =>
     simp only [List.getElem?_cons_zero,Option.some.injEq] at hk;subst hk;rcases h.1 with ((h1|h1)|h1)|h1
     ·exact .inl (by simpa using h1)
     ·exact .inr (.inl (by omega))
     ·refine .inr (.inr (.inl ?_));rw [<- Array.any_toList];exact h1
     ·exact .inr (.inr (.inr h1))
   | succ k =>
     simp only [List.getElem?_cons_succ] at hk;rcases A9 r l (j+1) h.2 k oj hk with h1|h1|h1|h1
     ·exact .inl (by simpa using h1)
     ·exact .inr (.inl (by omega))
     ·exact .inr (.inr (.inl h1))
     ·exact .inr (.inr (.inr h1))
def y1s(md:Region.Mode)(ops:Array Oper)(listed:Array Bool)(i:Nat):Bool :=
 match ops[i]? with
 | some oi=>y5e md ops oi i 0 ops.toList listed.toList
 | none=>false
theorem Ce{listed:Array Bool}{i:Nat}(h:y1s md ops listed i=true):Region.free md ops listed i=true:=by
 unfold y1s at h;unfold Region.free
 cases ho:ops[i]? with
 | none=>rw [ho] at h;cases h
 | some o =>
   rw [ho] at h;simp only [List.all_eq_true,List.mem_range];intro j hj
   have:=A9 _ _ _ h j ops[j] (by simp [hj])
   simp only [Array.getElem?_eq_getElem hj,Bool.or_eq_true,beq_iff_eq];rcases this with h1|h1|h1|h1
   ·exact .inl (.inr (by simpa using h1))
   ·exact .inl (.inl (by omega))
   ·exact .inr (.inl h1)
   ·exact .inr (.inr h1)
def Ci(md:Region.Mode)(listed:List Bool)(i:Nat):Nat->List Oper->List Bool->Bool
 | j,o :: r,l :: lr=>(l || j==i || !(o.after.toList.all fun e=>!Region.binds md e || listed.getD e.on false))&&Ci md listed i (j+1) r lr
 | _,_,_=>true
theorem Aw{listed:List Bool}{i:Nat}:∀ (r:List Oper) (l:List Bool) (j:Nat),Ci md listed i j r l=true->∀ k o,r[k]?=some o->l.getD k true=true\/j+k=i\/(o.after.toList.all fun e=>!Region.binds md e || listed.getD e.on false)=false
 | [],_,_,_,k,oj,hk=>by simp at hk
 | o :: r,[],_,_,k,oj,hk=>.inl (by simp)
 | o :: r,b :: l,j,h,k,oj,hk=>by
   unfold Ci at h;simp only [Bool.and_eq_true,Bool.or_eq_true,beq_iff_eq,Bool.not_eq_true'] at h
   cases k with
   | zero =>
     simp only [List.getElem?_cons_zero,Option.some.injEq] at hk;subst hk;rcases h.1 with (h1|h1)|h1
     ·exact .inl (by simpa using h1)
     ·exact .inr (.inl (by omega))
     ·exact .inr (.inr h1)
   | succ k =>
     simp only [List.getElem?_cons_succ] at hk;rcases Aw r l (j+1) h.2 k oj hk with h1|h1|h1
     ·exact .inl (by simpa using h1)
     ·exact .inr (.inl (by omega))
     ·exact .inr (.inr h1)
theorem Ps{listed:Array Bool}{i j:Nat}(h:Ci md listed.toList i 0 ops.toList listed.toList=true)(hj:j∈Region.ready md ops listed):j=i:=by
 rw [mem_ready] at hj;obtain ⟨h0,o,ho,ha⟩:=hj;rcases Aw _ _ _ h j o (by simpa using ho) with h1|h1|h1
 ·have h1':listed.getD j true=true:=by simpa using h1
  rw [h0] at h1';cases h1'
 ·omega
 ·refine absurd ?_ (by rw [h1];decide:¬ (o.after.toList.all fun e=>!Region.binds md e || listed.toList.getD e.on false)=true);rw [List.all_eq_true];intro e he
  cases hb:Region.binds md e
  ·rfl
  ·have:=ha e (by simpa using he) hb
   have h2:listed.toList.getD e.on false=true:=by simpa using this
   rw [h2];rfl
theorem z8v(listed:Array Bool):(Region.ready md ops listed).Nodup:=List.nodup_range.sublist List.filter_sublist
theorem y2s{listed:Array Bool}{i:Nat}(h:Ci md listed.toList i 0 ops.toList listed.toList=true)(hr:F5 md ops listed i=true):Region.ready md ops listed=[i]:=by
 have h1:=fun j (hj:j∈Region.ready md ops listed)=>Ps h hj;have h2:i∈Region.ready md ops listed:=by simpa using Mm hr
 have h3:=z8v (md:=md) (ops:=ops) listed;generalize Region.ready md ops listed=R at *
 match R,h1,h2,h3 with
 | [],_,h2,_=>cases h2
 | [x],h1,_,_=>rw [h1 x (by simp)]
 | x :: y :: r,h1,_,h3 =>
   have e1:=h1 x (by simp);have e2:=h1 y (by simp);subst e1;subst e2;simp at h3
theorem y2o{listed:Array Bool}(h:Ci md listed.toList ops.size 0 ops.toList listed.toList=true):Region.ready md ops listed=[]:=by
 have h1:=fun j (hj:j∈Region.ready md ops listed)=>Ps h hj;have h4:=fun j (hj:j∈Region.ready md ops listed)=>(mem_ready.1 hj).2;generalize Region.ready md ops listed=R at *
 match R,h1,h4 with
 | [],_,_=>rfl
 | x :: r,h1,h4 =>
   obtain ⟨o,ho,_⟩:=h4 x (by simp)
   have:=h1 x (by simp)
   have:=(Array.getElem?_eq_some_iff.1 ho).1
   omega
def Gh(md:Region.Mode)(ops:Array Oper):List (Nat × Bool)->Array Bool->Bool
 | [],listed=>Ci md listed.toList ops.size 0 ops.toList listed.toList
 | (i,true) :: r,listed=>F5 md ops listed i&&y1s md ops listed i&&Gh md ops r (listed.setIfInBounds i true)
 | (i,false) :: r,listed=>F5 md ops listed i&&Ci md listed.toList i 0 ops.toList listed.toList&&Gh md ops r (listed.setIfInBounds i true)
def Qm(P:Program)(ops:Array Oper)(S:World->Prop)(Q:Exit->Act->World->Prop):List (Nat × Bool)->Act->World->Prop
 | [],a,w=>Q .normal a w
 | (i,true) :: r,a,w=>∃ o,ops[i]?=some o/\((Region.wanted o (yielded ops a.tmps)=true/\∃ v,(∀ w',S w'->(execOp a.eval o).run P w'=.ok (.value v) w')/\Qm P ops S Q r (a.put o.dst v) w)\/(Region.wanted o (yielded ops a.tmps)=false/\Qm P ops S Q r (a.put o.dst undef) w))
 | (i,false) :: r,a,w=>∃ o,ops[i]?=some o/\if Region.wanted o (yielded ops a.tmps)=true then o.wp P a w (fun a' w'=>S w'/\Qm P ops S Q r a' w') Q else Qm P ops S Q r (a.put o.dst undef) w
theorem Uc(hs:Region.noSelect ops=true)(hQ:∀ c a w d v,Q (.panic c) (a.put d v) w->Q (.panic c) a w) :
 ∀ (l:List (Nat × Bool)) (listed:Array Bool) (a:Act) (w:World),Gh md ops l listed=true->S w->Qm P ops S Q l a w->wpAnyH P md ops Q S l.length listed a w
 | [],listed,a,w,hB,_,h=>by
   unfold Gh at hB;exact wpAnyH_done (y2o hB) h 0
 | (i,true) :: r,listed,a,w,hB,hS,h=>by
   unfold Gh at hB;simp only [Bool.and_eq_true] at hB;obtain ⟨⟨hr,hf⟩,hB'⟩:=hB;unfold Qm at h;obtain ⟨o,ho,h⟩:=h;rcases h with ⟨hw,v,hy,h⟩|⟨hw,h⟩
   ·exact wpAnyH_take ho hs (Ce hf) (Mm hr) (fun c a w=>hQ c a w _ _) (.inl ⟨hw,hy⟩) hS (Uc hs hQ r _ _ w hB' hS h)
   ·exact wpAnyH_take (v:=undef) ho hs (Ce hf) (Mm hr) (fun c a w=>hQ c a w _ _) (.inr ⟨hw,rfl⟩) hS (Uc hs hQ r _ _ w hB' hS h)
 | (i,false) :: r,listed,a,w,hB,hS,h=>by
   unfold Gh at hB;simp only [Bool.and_eq_true] at hB;obtain ⟨⟨hr0,hr1⟩,hB'⟩:=hB;have hr:=y2s hr1 hr0;unfold Qm at h;obtain ⟨o,ho,h⟩:=h;refine wpAnyH_all hr (by simp) ?_;intro j hj;rw [lAg] at hj;subst hj;unfold wpOp;simp only [ho]
   split
   ·rename_i hw;rw [if_pos hw] at h;refine .inl ?_;exact (Oper.wp_mono (fun a' w' h'=>⟨h'.1,Uc hs hQ r _ a' w' hB' h'.1 h'.2⟩) h)
   ·rename_i hw;rw [if_neg hw] at h;exact ⟨hS,Uc hs hQ r _ _ w hB' hS h⟩
def wpL(P:Program)(ops:Array Oper)(S:World->Prop)(Q:Exit->Act->World->Prop):List (Option Oper × Bool)->Act->World->Prop
 | [],a,w=>Q .normal a w
 | (none,_) :: _,_,_=>False
 | (some o,true) :: r,a,w=>(Region.wanted o (yielded ops a.tmps)=true/\∃ v,(∀ w',S w'->(execOp a.eval o).run P w'=.ok (.value v) w')/\wpL P ops S Q r (a.put o.dst v) w)\/(Region.wanted o (yielded ops a.tmps)=false/\wpL P ops S Q r (a.put o.dst undef) w)
 | (some o,false) :: r,a,w=>if Region.wanted o (yielded ops a.tmps)=true then o.wp P a w (fun a' w'=>S w'/\wpL P ops S Q r a' w') Q else wpL P ops S Q r (a.put o.dst undef) w
def Qw(ops:Array Oper):List (Nat × Bool)->List (Option Oper × Bool)
 | []=>[]
 | (i,b) :: r=>(ops[i]?,b) :: Qw ops r
theorem Je:∀ (l:List (Nat × Bool)) (a:Act) (w:World),wpL P ops S Q (Qw ops l) a w->Qm P ops S Q l a w
 | [],_,_,h=>h
 | (i,b) :: r,a,w,h=>by
   unfold Qw at h
   cases ho:ops[i]? with
   | none=>rw [ho] at h;unfold wpL at h;exact h.elim
   | some o =>
     rw [ho] at h
     cases b
     ·unfold wpL at h;unfold Qm;refine ⟨o,ho,?_⟩
      split
      ·rename_i hw;rw [if_pos hw] at h;exact Oper.wp_mono (fun a' w' h'=>⟨h'.1,Je r _ _ h'.2⟩) h
      ·rename_i hw;rw [if_neg hw] at h;exact Je r _ _ h
     ·unfold wpL at h;unfold Qm;refine ⟨o,ho,?_⟩;rcases h with ⟨hw,v,hy,h⟩|⟨hw,h⟩
      ·exact .inl ⟨hw,v,hy,Je r _ _ h⟩
      ·exact .inr ⟨hw,Je r _ _ h⟩
theorem Yj{id:Nat}{a:Act}{w:World}(sched:List (Nat × Bool))(S:World->Prop)(hm:P.follows .mixedOrders=true)(hs:Region.noSelect ops=true)(hn:sched.length=ops.size)
 (hB:Gh .any ops sched (Array.replicate ops.size false)=true) (hQ:∀ c a w d v,Q (.panic c) (a.put d v) w->Q (.panic c) a w) (hS:S w.drew) (h:∀ L,Qw ops sched=L->wpL P ops S Q L a w.drew):(Code.region id ops true).wp P Q a w:=by
 refine wp_region_held (S:=S) hm ?_;rw [<- hn];rw [<- hn] at hB;exact Uc hs hQ sched _ a w.drew hB hS (Je _ _ _ (h _ rfl))
theorem Xf{a:Act}{w:World}(h:Q .normal a w):wpL P ops S Q [] a w:=h
theorem y3s{b:Bool}{o:Oper}{r:List (Option Oper × Bool)}{a:Act}{w:World}(hw:Region.wanted o (yielded ops a.tmps)=false)(h:wpL P ops S Q r (a.put o.dst undef) w):wpL P ops S Q ((some o,b) :: r) a w:=by
 cases b
 ·unfold wpL;rw [hw];exact h
 ·exact .inr ⟨hw,h⟩
theorem Zj{o:Oper}{v:Value}{r:List (Option Oper × Bool)}{a:Act}{w:World}(hw:Region.wanted o (yielded ops a.tmps)=true)(hy:∀ w',S w'->(execOp a.eval o).run P w'=.ok (.value v) w')(h:wpL P ops S Q r (a.put o.dst v) w):wpL P ops S Q ((some o,true) :: r) a w :=
 .inl ⟨hw,v,hy,h⟩
def Way(P:Program)(ops:Array Oper)(S:World->Prop)(Q:Exit->Act->World->Prop)(r:List (Option Oper × Bool))(K':Act->World->Prop):Prop:=∀ a w,S w->wpL P ops S Q r a w->K' a w
theorem Zo{o:Oper}{r:List (Option Oper × Bool)}{a:Act}{w:World}(hw:Region.wanted o (yielded ops a.tmps)=true)(h:∀ K':Act->World->Prop,Way P ops S Q r K'->o.wp P a w K' Q):wpL P ops S Q ((some o,false) :: r) a w:=by
 unfold wpL;rw [if_pos hw];exact h _ (fun a w hS h=>⟨hS,h⟩)
def Mn(ops:Array Oper):Bool:=ops.all fun o=>match o.op with|.defer _=>false|_=>true
theorem Ga{ops:Array Oper}(h:Mn ops=true){i:Nat}{o:Oper}(ho:ops[i]?=some o)(c:Call):o.op≠.defer c:=fun e=>by
 have:=Array.all_eq_true'.1 h o (Array.mem_of_getElem? ho)
 simp [e] at this
theorem y4q{n l:Nat}{o:Oper}(hd:∀ c,o.op≠.defer c){a:Act}{K:Act->World->Prop}{w:World}(h:o.wp P a w K Q):o.wpIn (Fence.wide.inRound l) n P a w K Q:=by
 refine ⟨fun _ _=>trivial,?_⟩;rw [Oper.semAt_eq _ _ _ hd];unfold Oper.wp at h;generalize (execOp a.eval o).run P w=r at *
 cases r with
 | ok x w' =>
   cases x <;> simp only [Oper.upon] at h
   case value v=>exact h
   case skip=>exact h
   case defer d=>exact h
   case enter f args=>exact ⟨fun h=>by simp [Fence.wide] at h,CallsIn.inRound l (callsIn_wide.2 h)⟩
   case row row args=>exact ⟨fun h=>by simp [Fence.wide] at h,fun c cs _=>let ⟨v,w',r,s⟩:=h c cs;⟨v,w',r,stepsIn_wide.2 s⟩⟩
 | halt x w' =>
   cases x <;> simp only [Oper.upon] at h
   case panic u=>exact h
theorem K7{n l:Nat}(hp:Mn ops=true)(hL:¬ LetsOut Q):∀ (fuel:Nat) (listed:Array Bool) (a:Act) (w:World),wpAny P md ops Q fuel listed a w->wpAnyIn (Fence.wide.inRound l) n P md ops Q fuel listed a w
 | 0,_,_,_,h=>h
 | fuel+1,listed,a,w,h=>⟨h.1,fun i hi=>by
   have h2:=h.2 i hi;unfold wpOp at h2;unfold wpOpIn
   cases ho:ops[i]? with
   | none=>rw [ho] at h2;exact K7 hp hL fuel _ _ _ h2
   | some o =>
     rw [ho] at h2;simp only at h2 ⊢
     split
     ·rename_i hw;rw [if_pos hw] at h2;rcases h2 with h2|h2
      ·exact y4q (Ga hp ho) (Oper.wp_mono (fun a' w' h'=>K7 hp hL fuel _ a' w' h') h2)
      ·exact absurd h2.2 hL
     ·rename_i hw;rw [if_neg hw] at h2
      exact ⟨fun _ _=>trivial,K7 hp hL fuel _ _ _ h2⟩⟩
end
end Go.Proofs.YtcklcmafohlflaaGreatDoor.Sched
namespace Go.Proofs.YtcklcmafohlflaaGreatDoor
open Zc (Ent Ext KeepC Ym Z9 Zg Xg Zx Zb Zv Yo Y5 Ze Zz Z4 Zd)
open Go.RowKit Go.Shelf Sk
attribute [local go_sem] Oper.semAt_some
def v3h(w:World)(E:List En)(e:Ending)(w':World):Prop:=∃ bx r,e=.returned (.func (.func 182) #[] #[.pointer (some ⟨bx,0,none⟩)])/\Blk w' bx 55 #[r]/\w.heap.size<=bx/\Row w' w.heap.size r E/\Bl w w'
theorem x0q(a:Option Addr)(n c:Nat)(w:World):Calls Tryz.prog 165 #[.slice a n c] w fun e w'=>e=.returned (.func (.func 182) #[] #[.pointer (some ⟨w.heap.size,0,none⟩)])/\w'=w.alloc (Obj.cells #[.slice a n c] 55):=by
 go_enter Tryz.func165,Tryz.ntmps165
 go_wp2;go_ret;exact ⟨rfl,rfl⟩
variable {w:World} {b l p q sd:Nat} {D:Nat->Prop} {L:List Nd} {m:ByteArray->Option Int} {n:Dc.Sh} {E:List En}
theorem y2n(W:World)(l:Nat) :
 (nilAhead 493 160 (.pointer (some ⟨l, 0, none⟩)) "Range").run Tryz.prog W = .ok (some false) W := by
 cases hi:Tryz.prog.info? 160 with
 | none=>exact absurd (congrArg Option.isSome hi) (by rw [show (Tryz.prog.info? 160).isSome=true by kernel_rfl];decide)
 | some i =>
   have hm : ((Tryz.prog.info? 160).bind fun i => (i.methods.find? (·.name == "Range")).map fun m => (m.path.toList, m.func)) = some ([{ struct := 219, index := 0, deref := true }], some (293, true)) := by kernel_rfl
   rw [hi] at hm
   cases hf : i.methods.find? (·.name == "Range") with
   | none=>rw [Option.bind_some,hf] at hm;cases hm
   | some mm =>
     rw [Option.bind_some,hf] at hm;simp only [Option.map_some,Option.some.injEq,Prod.mk.injEq] at hm;have hu:=run_underlying (P:=Tryz.prog) Tryz.underlying219;unfold nilAhead;simp [typeInfo,hi,hf,hm.1,hm.2,followBlind,hu,go_sem]
theorem v1s(h:LAt w l p q D sd L m n)(hN:L.length<=100000):Calls Tryz.prog 139 #[.iface 160 (.pointer (some ⟨l,0,none⟩))] w (v3h w (L.map en)):=by
 have HL:=fun W (hb:Bl w W)=>jY (I2 p L rfl (h.later hb).ls.sk);have HR:=fun W (hb:Bl w W)=>jY (z4r (h.later hb).ls hN 0 L.length);have hls:(L.map en).length=L.length:=List.length_map ..;have hsu:Ua (L.map en) 0 (L.length:Int)=L.map en:=by rw [<- hls];exact z9x _
 simp only [hsu] at HR;have HS:=fun W (hb:Bl w W)=>jY (show W.cell? ⟨l,0,none⟩=some (.pointer (some ⟨p,0,none⟩)) from (Za (h.later hb).blk).1);clear hsu;clear h;have HB0:=jY (show Bl w w.drew from Zk w 1);have HLA:=HL _ HB0.out
 go_enter Tryz.func139,Tryz.ntmps139
 go_wp2_with fail;have S0:=(HS _ HB0.out).out;have hm1:=Am S0;refine Sched.Yj [(0,true),(1,true),(3,true),(4,true),(5,true),(2,false),(6,false),(7,false),(8,true)] (fun W=>W.cell? ⟨l,0,none⟩=some (.pointer (some ⟨p,0,none⟩))) (by kernel_rfl) (by kernel_rfl) rfl (by kernel_rfl) (fun _ _ _ d _ h=>by cases d <;> exact h) S0 ?_;intro L hL;simp only [Sched.Qw,List.getElem?_toArray,List.getElem?_cons_zero,List.getElem?_cons_succ] at hL;subst hL
 repeat (first
  | (refine Sched.Zj (v:=?_) (by rfl) ?_ ?_
     rotate_left
     (focus (intro w' hSw;(try dsimp only at hSw);have hm3:=y2n w' l;go_simp;(try with_reducible rfl);done))
     simp only [Act.put,List.setIfInBounds_toArray,List.set_cons_zero,List.set_cons_succ]))
 refine Sched.Zo (by rfl) fun K' hK=>?_
 go_simp
 go_at_call 292;refine HLA.out.mono ?_;rintro e w1 ⟨rfl,rfl⟩
 have HB1:=HB0;have hm2:=An S0;have HRA:=HR _ HB1.out;clear HLA HL HR;refine hK _ _ S0 ?_;clear hK K'
 repeat (first
  | (refine Sched.Zj (v:=?_) (by rfl) ?_ ?_
     rotate_left
     (focus (intro w' hSw;(try dsimp only at hSw);go_simp;(try with_reducible rfl);done))
     simp only [Act.put,List.setIfInBounds_toArray,List.set_cons_zero,List.set_cons_succ]))
 refine Sched.Zo (by rfl) fun K' hK=>?_
 go_simp
 go_at_call 293;refine HRA.out.mono ?_;rintro e w2 ⟨r,rfl,hr,hb⟩
 have HB2:=jY (HB1.out.trans (hb.mono HB1.out.size));have HR2:=jY (hr.mono HB1.out.size);have hz:=HB2.out.size;obtain ⟨ra,rc,rfl⟩:=hr.form;have HV:=jY (x0q ra (L.map en).length rc w2);rw [hls] at HV;have S2:=(HS _ HB2.out).out;clear hb HRA hr;refine hK _ _ S2 ?_;clear hK K'
 repeat (first
  | (refine Sched.Zj (v:=?_) (by rfl) ?_ ?_
     rotate_left
     (focus (intro w' hSw;(try dsimp only at hSw);go_simp;(try with_reducible rfl);done))
     simp only [Act.put,List.setIfInBounds_toArray,List.set_cons_zero,List.set_cons_succ]))
 refine Sched.Zo (by rfl) fun K' hK=>?_
 go_simp
 go_at_call 165;refine HV.out.mono ?_;rintro e w3 ⟨rfl,rfl⟩
 have S3:=(HS _ (HB2.out.alloc hz (.cells #[.slice ra L.length rc] 55))).out;clear HV;refine hK _ _ S3 ?_;clear hK K'
 repeat (first
  | (refine Sched.Zj (v:=?_) (by rfl) ?_ ?_
     rotate_left
     (focus (intro w' hSw;(try dsimp only at hSw);go_simp;(try with_reducible rfl);done))
     simp only [Act.put,List.setIfInBounds_toArray,List.set_cons_zero,List.set_cons_succ]))
 refine Sched.Xf ?_;go_wp2_with fail;go_ret;rw [hls] at HR2;exact ⟨_,_,rfl,Blk.new _ _ _,hz,HR2.out.later (Z0 _ _),HB2.out.alloc hz _⟩
def Cy(_:Nat)(t:Th):Array Value:=#[.string t.key,Yv t]
theorem y9f{W W':World}{rv:Value}{n:Nat}{xs:List Value}{K:List Nat}(h:W.ownsRow 0 X3 1 rv n xs)(hk:Zc.KeepC Zr.itT K W W')(hK:∀ k∈K,rv.ownBlock≠some k):W'.ownsRow 0 X3 1 rv n xs:=by
 refine ⟨h.1,?_⟩;rcases h.2 with hn|⟨g,cap,cur,rfl,hb',hg,rest⟩
 ·exact .inl hn
 ·exact .inr ⟨g,cap,cur,rfl,hb',hk.same g cur X3 (fun hm=>hK g hm rfl) (.inr (.inr (.inl rfl))) hg,rest⟩
theorem Ba(p:Nat)(w:World):Calls Tryz.prog 41 #[.pointer (some ⟨p,0,none⟩)] w fun e w'=>∃ bx,e=.returned (.func (.func 71) #[] #[.pointer (some ⟨bx,0,none⟩)])/\Blk w' bx 29 #[.pointer (some ⟨p,0,none⟩)]/\w.heap.size<=bx/\Bl w w':=by
 go_enter Tryz.func41,Tryz.ntmps41
 go_wp2;go_ret;exact ⟨_,rfl,Blk.new _ _ _,lAd _,Z0 _ _⟩
theorem M5(p d sd:Nat)(en mn:Int)(rv:Value)(w:World)(h:Blk w p Gm (spC en mn sd d rv)):Calls Tryz.prog 39 #[.pointer (some ⟨p,0,none⟩)] w fun e w'=>e=.returned (.pointer (some ⟨d,0,none⟩))/\w'=w:=by
 have c3:=h.cell 3;simp [spC] at c3
 go_enter Tryz.func39,Tryz.ntmps39
 go_wp2;go_ret;exact ⟨rfl,rfl⟩
theorem y4x(L:List Th)(hl:L.length<=100000)(rv:Value)(p d sd:Nat)(en mn:Int)(bx:Nat)(K:List Nat)(w:World)(h1:Blk w bx 29 #[.pointer (some ⟨p,0,none⟩)])(h2:Blk w p Gm (spC en mn sd d rv))
 (hr:w.ownsRow 0 X3 1 rv L.length (L.map Yv)) (hth:∀ t∈L,Blk w t.q Uy (thC t.s t.toIt)) (hK:∀ k∈K,rv.ownBlock≠some k) (hK2:∀ k∈K,∀ t∈L,t.q≠k) :
 Zc.Cv Zr.itT Tryz.prog 71 #[.pointer (some ⟨bx,0,none⟩)] Cy L K w:=by
 intro y J Jx W hW hJ hJx hY hJ0;have k1:=h1.later hW;have k2:=h2.later hW;have hr1:=Pw hr fun k hk=>by obtain ⟨cc,hb⟩:=X5 hr hk;exact hW.block k hb.lt
 have ht1:=fun t ht=>(hth t ht).later hW;have hform:=M2 hr1;obtain ⟨A,cap,rfl,hlc,_,_⟩:=hform;refine callsIn_of_wp Tryz.func71 rfl trivial ?_ rfl;simp only [Tryz.ntmps71,List.size_toArray,List.length_cons,List.length_nil,Nat.reduceAdd,Nat.reduceSub,Array.replicate_succ,Array.replicate_zero,List.push_toArray,List.append_toArray,List.nil_append,List.cons_append];have HY:=jY hY;have a0:=k1.cell 0;have a4:=k2.cell 4;simp [spC] at a0 a4;have HR1:=jY hr1;have HT1:=jY ht1;clear hY hr hr1 h1 h2 k1 k2 ht1 hth;gi_wp2
 gi_loopw [10] (fun s wr=>∃ (i:Nat),s=.int .i64 i/\i<=L.length/\J i wr/\Hid (wr.ownsRow 0 X3 1 (.slice A L.length cap) L.length (L.map Yv))/\Hid (∀ t∈L,Blk wr t.q Uy (thC t.s t.toIt)))
  (fun s _=>L.length-(intOf s).toNat)
 case atStart=>exact ⟨0,rfl,by omega,hJ0,HR1,HT1⟩
 case round =>
  clear a0 a4;obtain ⟨i,rfl,hi,hJi,HRW,HTW⟩:=hrel
  by_cases hlt:i<L.length
  ·have hx:L[i]?=some L[i]:=lAa hlt;obtain ⟨A',cap',h1,_,_,hc⟩:=M2 HRW.out
   cases h1
   obtain ⟨g,rfl,h4,_⟩:=hc i _ hx;have h5:=(HTW.out _ (List.getElem_mem hlt)).cell 1;simp [thC] at h5;obtain ⟨fn,tmps,assign,body,hy,hR⟩:=HY.out i L[i] wr hx hJi;unfold Cy at hy;unfold Yv at h4 hy;generalize L[i]=t at *;have hlt2:(i:Int)<L.length:=by omega
   clear hx hJi hc
   gi_wp2_with fail
   (try refine ⟨fun _=>by decide,?_⟩)
   refine hR.mono ?_;rintro e W3 (⟨rfl,hJ3,hk3⟩|⟨rfl,hJx3⟩)
   ·have R3:=jY (y9f HRW.out hk3 hK);have T3:=jY (show ∀ t∈L,Blk W3 t.q Uy (thC t.s t.toIt) from fun t ht=>hk3.same t.q _ Uy (fun hm=>hK2 _ hm t ht rfl) (.inr (.inr (.inr rfl))) (HTW.out t ht));clear hR hy hk3;gi_wp2;refine ⟨⟨i+1,by go_num,hlt,hJ3,R3,T3⟩,?_⟩;simp only [intOf];omega
   ·gi_wp2;exact bodyPost_ret (v:=.tuple #[]) (by simp [results,Tryz.results71,go_sem]) rfl ⟨⟨_,rfl⟩,.inr ⟨_,hJx3⟩⟩
  ·obtain rfl:i=L.length:=by omega
   have hle:¬ ((L.length:Int)<L.length):=by omega
   have HJ:=jY hJi;clear HRW HTW hJi;gi_wp2
   go_end0
   exact ⟨⟨_,rfl⟩,.inl HJ.out⟩
theorem z9t{sh:Dc.Sh}(h:sh.B=0):sh.step1=sh:=by unfold Dc.Sh.step1;rw [if_pos h]
def v0p(w:World)(F:Nat)(t:Th)(a:Act):Prop:=∃ u0 u1 u2 u4 u5 u6 u7 u8 u12 u13 u14 u15 u16 u17 u18 u19 u20 u21 u22 u23 u24 u25 u26 u27 u28 u29 u30 u31 u32 u33 u34 u35 u36 u37,a={ tmps:=#[u0,u1,u2,.pointer (some ⟨w.heap.size,0,none⟩),u4,u5,u6,u7,u8,.pointer (some ⟨F,0,none⟩),.string t.key,Yv t,u12,u13,u14,u15,u16,u17,u18,u19,u20,u21,u22,u23,u24,u25,u26,u27,u28,u29,u30,u31,u32,u33,u34,u35,u36,u37],defers:=[] }
def y4v(W:World)(p d:Nat)(SD:Nat->Prop)(rv:Value)(en mn:Int)(sd:Nat)(sh:Dc.Sh)(c:Nat)(L:List Th)(W':World):Prop :=
 ∃ SD',SpIn W' p d SD' rv en mn sd (Y4 L) sh c L/\(∀ j,SD' j->SD j\/W.heap.size<=j)/\Far SD W W'
theorem Ql{L:List Th}(hk:Y6 (itl L)){t:Th}(ht:t∈L):Y4 L t.key=some ⟨t.q,0,none⟩:=by
 unfold Y4
 have hnd:(L.map fun t=>t.key).Nodup:=by
  have:=hk
  unfold Y6 itl at this
  rwa [List.map_map] at this
 clear hk
 induction L with
 | nil=>cases ht
 | cons a r ih =>
   rw [List.map_cons,List.nodup_cons] at hnd;rw [List.find?_cons]
   by_cases e:a.key=t.key
   ·rcases List.mem_cons.1 ht with h|h
    ·subst h;simp
    ·exact absurd (List.mem_map.2 ⟨t,h,e.symm⟩) hnd.1
   ·rcases List.mem_cons.1 ht with h|h
    ·subst h;exact absurd rfl e
    ·simp only [e,decide_false];exact ih h hnd.2
theorem Cb{L:List Th}{k:ByteArray}(h:∀ t∈L,t.key≠k):Y4 L k=none:=by
 unfold Y4;rw [List.find?_eq_none.2 fun t ht=>by simpa using h t ht];rfl
theorem U2{L:List Th}{k:ByteArray}{a:Addr}(h:Y4 L k=some a):∃ t∈L,t.key=k/\a=⟨t.q,0,none⟩:=by
 unfold Y4 at h;obtain ⟨t,ht,rfl⟩:=Option.map_eq_some_iff.1 h;exact ⟨t,List.mem_of_find?_eq_some ht,by simpa using List.find?_some ht,rfl⟩
section
variable {w:World} {p d sd c:Nat} {SD:Nat->Prop} {rv:Value} {en mn:Int} {sh:Dc.Sh} {L:List Th}
theorem y1g(h:SpIn w p d SD rv en mn sd (Y4 L) sh c L)(hB:sh.B=0)(hn:sh.n<=1000000)(k:ByteArray)(hk:k.size<=281474976710656) :
 Calls Tryz.prog 48 #[.pointer (some ⟨p,0,none⟩),.string k] w fun e w'=>e=.returned (.tuple #[.pointer (Y4 L k),.bool (Y4 L k).isSome])/\y4v w p d SD rv en mn sd sh c L w':=by
 have hb0:=Z0 w (.cells #[.string k] 9);have k0:=Blk.new w 9 #[.string k];have h1:=h.later hb0;have HT:=jY (fun W (hb:Below (w.alloc (.cells #[.string k] 9)).heap.size (w.alloc (.cells #[.string k] 9)) W)=>M5 p d sd en mn rv W (h1.later hb).blk);have HS:=jY (Dc.Dt.z9n h1.dict);have HG:=jY (fun W (hb:Below (w.alloc (.cells #[.string k] 9)).heap.size (w.alloc (.cells #[.string k] 9)) W)=>Dc.Dt.y1n h.sd (h1.later hb).dict hn k hk);have HK:=jY (fun W (hb:Below (w.alloc (.cells #[.string k] 9)).heap.size (w.alloc (.cells #[.string k] 9)) W)=>(Z5 (k0.later hb)).1);have HNS:=jY (show ¬ SD w.heap.size from fun hs=>by have:=h.dict.lt _ hs;omega)
 have HF:=jY (fun W (hb:Below (w.alloc (.cells #[.string k] 9)).heap.size (w.alloc (.cells #[.string k] 9)) W) W' (hd:Dc.Dt.IsNow SD W d sd (Y4 L) sh.step1 W')=>show y4v w p d SD rv en mn sd sh c L W' from by
  rw [z9t hB] at hd;obtain ⟨g1,g2⟩:=(h1.later hb).dicted hd;have hbw:=hb0.trans (hb.mono hb0.size)
  exact ⟨_,g1,fun j hj=>by
   rcases hj.1 with h|h
   ·exact .inl h
   ·exact .inr (lAe hbw.size h),(Far.of_below hbw).trans g2 fun j hj=>.inl hj⟩)
 rw [hB] at HS;clear h h1 hk hn hB k0;have e0:(((0:Nat):Int)==0)=true:=rfl
 go_enter Tryz.func48,Tryz.ntmps48
 go_wp2_with fail;generalize w.alloc (.cells #[.string k] 9)=wb at *;have HTb:=jY (HT.out wb (Below.refl _ _));refine wp_scope_straight ?_;go_wp2_with fail;refine HTb.out.mono ?_;rintro e w1 ⟨rfl,rfl⟩;go_wp2_with fail;refine HS.out.mono ?_;rintro e w2 ⟨rfl,hb2⟩;have hbd:=hb2.trans ((Zk w2 1).mono hb2.size);have HT2:=jY (HT.out w2.drew hbd);have HG2:=jY (HG.out w2.drew hbd);have HF2:=jY (HF.out w2.drew hbd);have S0:w2.drew.cell? ⟨w.heap.size,0,none⟩=some (.string k):=HK.out w2.drew hbd;clear hbd hb2 HS HTb HT HG HF HK;go_wp2_with fail
 go_region_held (fun W=>W.cell? ⟨w.heap.size,0,none⟩=some (.string k)) (first|exact S0|exact S1|assumption)
  (first
    | (go_at_call 39;refine HT2.out.mono ?_;rintro e wn ⟨rfl,rfl⟩)
    | (go_at_call 79;refine HG2.out.mono ?_;rintro e w4 ⟨rfl,hd4⟩
       have H4:=jY (HF2.out w4 hd4);have S1:w4.cell? ⟨w.heap.size,0,none⟩=some (.string k):=(World.cell?_of_block (a:=⟨w.heap.size,0,none⟩) (hd4.2.block w.heap.size (World.block_lt_of_cell? _ _ S0) HNS.out)).trans S0
       clear HG2 HF2 hd4))
 all_goals (
  clear S0;go_wp2_with fail;simp only [Exit.noGoto];go_returns
  exact ⟨rfl,H4.out⟩)
theorem z7g(h:SpIn w p d SD rv en mn sd (Y4 L) sh c L)(hl:L.length<=100000)(hB:sh.B≠0)(k:ByteArray)(_:k.size<=281474976710656) :
 Calls Tryz.prog 48 #[.pointer (some ⟨p,0,none⟩),.string k] w fun e w'=>e=.returned (.tuple #[.pointer (Y4 L k),.bool (Y4 L k).isSome])/\Bl w w':=by
 have hb0:=Z0 w (.cells #[.string k] 9);have k0:=Blk.new w 9 #[.string k];have h1:=h.later hb0;have HS:=jY (Dc.Dt.z9n h1.dict);have HA:=fun W=>jY (Ba p W);have e0:((sh.B:Int)==0)=false:=by simp;omega
 have HH:=jY h1;clear h h1;refine (callsIn_wide (n:=6)).1 (callsIn_of_wp_marks Tryz.func48 rfl trivial ?_ rfl);refine wpIn_wide.2 ?_;simp only [Tryz.ntmps48,List.size_toArray,List.length_cons,List.length_nil,Nat.reduceAdd,Nat.reduceSub,Array.replicate_succ,Array.replicate_zero,List.push_toArray,List.append_toArray,List.nil_append,List.cons_append];go_wp2_with fail;generalize w.alloc (.cells #[.string k] 9)=wb at *;have HTb:=jY (M5 p d sd en mn rv wb HH.out.blk);refine wp_scope_straight ?_;go_wp2_with fail;refine HTb.out.mono ?_;rintro e w1 ⟨rfl,rfl⟩;go_wp2_with fail;refine HS.out.mono ?_;rintro e w2 ⟨rfl,hb2⟩;go_wp2_with fail;refine wp_label ?_;go_wp2_with fail;refine (HA _).out.mono ?_;rintro e w3 ⟨bx,rfl,hbx,hbl,hb3⟩;obtain ⟨F,hF⟩:∃ F,F=w2.heap.size:=⟨_,rfl⟩;have hB2:=hb0.trans (hb2.mono hb0.size);have hB3:Bl w w3:=hB2.trans (((Z0 w2 (.cells #[.pointer none] X3)).trans (hb3.mono (by simp))).mono hB2.size);have kf:Blk w3 F X3 #[.pointer none]:=hF ▸ (Blk.new w2 X3 #[.pointer none]).later hb3;have kk:Blk w3 w.heap.size 9 #[.string k]:=((k0.later hb2).alloc _).later hb3;have h3:=((HH.out.later hb2).later (Z0 w2 (.cells #[.pointer none] X3))).later hb3
 have hseq:=y4x L hl rv p d sd en mn bx [F] w3 hbx h3.blk h3.row h3.th (fun j hj e=>by
  obtain rfl:j=F:=by simpa using hj
  have:=(HH.out.later hb2).lt (.inr (.inl e));omega) (fun j hj t ht e=>by
  obtain rfl:j=F:=by simpa using hj
  have:=(HH.out.later hb2).lt (.inr (.inr (.inr ⟨t,ht,.inl e.symm⟩)));omega)
 have HKEYS:=jY h3.keys;have hFw:w.heap.size<=F:=by rw [hF];exact hB2.size
 rw [<- hF];clear hbx hbl hb3 h3 hb2 hb0 k0 hF hB2 HS HA HTb HH;go_wp2_with fail
 refine (wpIn_wide (n:=6)).1 (Zc.Ui (gf:=71) (lb:=#[.pointer (some ⟨bx,0,none⟩)]) (encs:=Cy) (xs:=L) (L:=[F]) rfl (enters_of Tryz.func71 (by kernel_rfl) rfl) hseq (fun _ _=>rfl)
  (fun i W=>Bl w W/\Blk W F X3 #[.pointer none]/\Blk W w.heap.size 9 #[.string k]/\Hid (∀ t∈L.take i,t.key≠k))
  (fun c _ W=>c=.exit 0/\Bl w W/\Blk W F X3 #[.pointer (Y4 L k)]/\(Y4 L k).isSome=true)
  ?hI ?hIx ?h0 (fun _ t a' _=>v0p w F t a') (fun _ _ _=>Z4 _ _) ?assign ?body ?done ?stop)
 case hI=>exact (Ze _ w (by have:=hB3.size;omega)).and ((Zh _ _ _ _).and ((Zh _ _ _ _).and (Z4 _ _)))
 case hIx=>exact fun c=>(Z4 _ _).and ((Ze _ w (by have:=hB3.size;omega)).and ((Zh _ _ _ _).and (Z4 _ _)))
 case h0=>exact ⟨hB3,kf,kk,jY (by simp)⟩
 case assign =>
  rintro l i t W K hx' hI hK;clear hseq;unfold Cy;gi_wp2;exact hK _ _ ⟨lAd _,fun _ _ _ h _=>h⟩ (Zc.KeepC.refl _ _) hI ⟨_,_,_,_,_,_,_,_,_,_,_,_,_,_,_,_,_,_,_,_,_,_,_,_,_,_,_,_,_,_,_,_,_,_,rfl⟩
 case body =>
  rintro l i t a' W hx' ⟨hb,q0,q1,hno⟩ ⟨u0,u1,u2,u3,u4,u5,u6,u7,u8,u9,u10,u11,u12,u13,u14,u15,u16,u17,u18,u19,u20,u21,u22,u23,u24,u25,u26,u27,u28,u29,u30,u31,u32,u33,rfl⟩;clear hseq;have htm:=Ql HKEYS.out (lAc hx');obtain ⟨c1,c2⟩:=Z5 q0;obtain ⟨d1,d2⟩:=Z5 q1;have Q0:=jY q0;have Q1:=jY q1;have HB:=jY hb
  by_cases he:t.key=k
  ·have hbeq:(t.key.toList==k.toList)=true:=by rw [he];simp
   rw [he] at htm;have HTM:=jY htm;clear q0 q1 hb hx' hno he htm;unfold Yv;gi_wp2;exact ⟨(KeepsOthers.setCell _ _ _).from _,rfl,HB.out.setCell (p:=⟨F,0,none⟩) hFw _,by rw [HTM.out];exact Q0.out.set 0 _,by rw [HTM.out];rfl⟩
  ·have hbeq:(t.key.toList==k.toList)=false:=by
    rw [Bool.eq_false_iff];intro h;exact he (V9 (by simpa using h))
   have HNO:=jY (show ∀ u∈L.take (i+1),u.key≠k from fun u hu=>by
    obtain ⟨hi,hx2⟩:=lAb.1 hx';rw [lAf hi,List.mem_append,lAg,hx2] at hu;rcases hu with hu|rfl
    ·exact hno.out u hu
    ·exact he)
   clear q0 q1 hb hx' hno he htm;gi_wp2;exact ⟨⟨lAd _,fun _ _ _ h _=>h⟩,Zc.KeepC.refl _ _,HB.out,Q0.out,Q1.out,HNO⟩
 case done =>
  rintro D W hD ⟨hb,q0,q1,hno⟩ hK;rw [List.take_length] at hno;have HN:=jY (Cb hno.out);clear hseq;obtain ⟨c1,c2⟩:=Z5 q0;have HK:=jY hK;have HB:=jY hb;clear hK q0 q1 hb hno;simp only [Exit.inBlock,Exit.then];go_wp2
  go_quiet (fail)
  go_wp2;simp only [Exit.noGoto];refine Zc.Y5 (v:=.tuple #[.pointer none,.bool false]) rfl HK.out (by simp [results,Tryz.results48,go_sem]) ⟨by rw [HN.out];rfl,Zg (HB.out.trans ((Zk W _).mono HB.out.size)) (lAe hB3.size hD) _⟩
 case stop =>
  rintro D c j W hD ⟨rfl,hb,q0,hs⟩ hK;clear hseq;obtain ⟨c1,c2⟩:=Z5 q0;have HK:=jY hK;have HB:=jY hb;clear hK q0 hb;refine wpIn_wide.2 ?_;obtain ⟨a,ha⟩:=Option.isSome_iff_exists.1 hs;rw [ha] at c1;have HA:=jY ha;clear hs ha;go_wp2
  go_quiet (fail)
  go_wp2;simp only [Exit.noGoto];refine Zc.Y5 (v:=.tuple #[.pointer (some a),.bool true]) rfl HK.out (by simp [results,Tryz.results48,go_sem]) ⟨by rw [HA.out];rfl,Zg (HB.out.trans ((Zk W _).mono HB.out.size)) (lAe hB3.size hD) _⟩
theorem Yq(h:SpIn w p d SD rv en mn sd (Y4 L) sh c L)(hn:sh.n<=1000000)(hl:L.length<=100000)(k:ByteArray)(hk:k.size<=281474976710656) :
 Calls Tryz.prog 48 #[.pointer (some ⟨p,0,none⟩),.string k] w fun e w'=>e=.returned (.tuple #[.pointer (Y4 L k),.bool (Y4 L k).isSome])/\y4v w p d SD rv en mn sd sh c L w':=by
 by_cases hB:sh.B=0
 ·exact y1g h hB hn k hk
 ·exact (z7g h hl hB k hk).mono fun _ _ ⟨he,hb⟩=>⟨he,SD,h.later hb,fun _ h=>.inl h,Far.of_below hb⟩
end
theorem Qx(L:List Th)(k:ByteArray):(Yl L k).Sublist L:=by
 unfold Yl
 split
 ·exact List.Sublist.refl _
 ·exact List.eraseIdx_sublist _ _
theorem Qv{L:List Th}(hk:Y6 (itl L))(k:ByteArray){t:Th}:t∈Yl L k↔t∈L/\t.key≠k:=by
 have hnd:(L.map fun t=>t.key).Nodup:=by
  have:=hk
  unfold Y6 itl at this
  rwa [List.map_map] at this
 unfold Yl
 cases hi:G5 L k with
 | none=>exact ⟨fun h=>⟨h,z1x hi t h⟩,fun h=>h.1⟩
 | some i =>
   obtain ⟨hi0,hke⟩:=I0 hi;simp only;rw [List.mem_eraseIdx_iff_getElem]
   constructor
   ·rintro ⟨j,hj,hne,rfl⟩;refine ⟨List.getElem_mem _,fun e=>hne ?_⟩;exact (List.getElem_inj (i:=j) (j:=i) (h₀:=by simpa using hj) (h₁:=by simpa using hi0) hnd).1 (by simp only [List.getElem_map];rw [e,hke])
   ·rintro ⟨h1,h2⟩;obtain ⟨j,hj,rfl⟩:=List.mem_iff_getElem.1 h1;exact ⟨j,hj,fun e=>h2 (by subst e;exact hke),rfl⟩
theorem Oa{L:List Th}(hk:Y6 (itl L))(k:ByteArray):itl (Yl L k)=Vx (itl L) k:=by
 unfold Vx;refine (List.Sublist.eq_of_length_le ?_ ?_).symm.symm
 ·have h1:(itl (Yl L k))=(itl (Yl L k)).filter fun x=>decide (x.key≠k):=by
   rw [eq_comm,List.filter_eq_self];intro x hx;obtain ⟨t,ht,rfl⟩:=List.mem_map.1 hx
   simpa using ((Qv hk k).1 ht).2
  rw [h1];exact ((Qx L k).map Th.toIt).filter _
 ·have h2:=z8g hk k;unfold Vx at h2;rw [h2];unfold itl Yl
  cases hi:G5 L k with
  | none =>
    have:Xy (L.map Th.toIt) k=none:=by
     unfold Xy;rw [List.find?_eq_none];intro x hx;obtain ⟨t,ht,rfl⟩:=List.mem_map.1 hx
     simpa using z1x hi t ht
    rw [this];simp
  | some i =>
    obtain ⟨hi0,hke⟩:=I0 hi
    have:(Xy (L.map Th.toIt) k).isSome=true:=by
     unfold Xy;rw [List.find?_isSome];exact ⟨_,List.mem_map.2 ⟨_,List.getElem_mem hi0,rfl⟩,by simpa using hke⟩
    rw [this,if_pos rfl];simp only [List.length_map,List.length_eraseIdx,if_pos hi0];exact lAd _
theorem Qd(L:List Th)(k:ByteArray):(Xy (itl L) k).isSome=(Y4 L k).isSome:=by
 unfold Xy Y4 itl;rw [List.find?_map];simp [Function.comp_def]
theorem z0c{L:List Th}(hk:Y6 (itl L))(k:ByteArray):(Yl L k).length=if (Y4 L k).isSome then L.length-1 else L.length:=by
 have h:=z8g hk k;rw [<- Oa hk k,Qd] at h;unfold itl at h
 simpa using h
theorem y0c{L:List Th}(hk:Y6 (itl L))(k:ByteArray):Y4 (Yl L k)=Dc.Dt.z9d (Y4 L) k:=by
 funext k'
 unfold Dc.Dt.z9d
 by_cases e:k'=k
 ·rw [if_pos e];subst e;exact Cb fun t ht=>((Qv hk k').1 ht).2
 ·rw [if_neg e]
  cases h:Y4 L k' with
  | none =>
    refine Cb fun t ht e2=>?_
    have:=Ql hk ((Qv hk k).1 ht).1
    rw [e2,h] at this
    cases this
  | some a =>
    obtain ⟨t,ht,rfl,rfl⟩:=U2 h;refine Ql ?_ ((Qv hk k).2 ⟨ht,e⟩);rw [Oa hk k];exact Ai hk k
theorem x0g{L:List Th}{t:Th}(h:∀ u∈L,u.key≠t.key):Y4 (L++[t])=Dc.Dt.z8t (Y4 L) t.key ⟨t.q,0,none⟩:=by
 funext k
 unfold Dc.Dt.z8t Y4;rw [List.find?_append,List.find?_singleton]
 by_cases e:k=t.key
 ·rw [if_pos e];subst e;rw [List.find?_eq_none.2 fun u hu=>by simpa using h u hu];simp
 ·rw [if_neg e]
  have:t.key≠k:=fun h=>e h.symm
  simp [this]
section
variable {W W' w w':World} {p d sd c:Nat} {SD:Nat->Prop} {rv rv':Value} {en mn:Int} {m:ByteArray->Option Addr} {sh:Dc.Sh} {L L':List Th} {t:Th}
def J5(p:Nat)(SD:Nat->Prop)(rv:Value)(k:Nat):Prop:=rv.ownBlock=some k\/k=p\/SD k
theorem SpIn.own_no(h:SpIn w p d SD rv en mn sd m sh c L){j ty:Nat}{cc:Array Value}(hj:Blk w j ty cc)(ht:ty ∉ X3 :: Gm :: v1f):¬ J5 p SD rv j:=fun hs=>by
 rcases hs with hk|rfl|hk
 ·obtain ⟨cc,hb⟩:=X5 h.row hk;exact ht (by rw [hj.ty hb];decide)
 ·exact ht (by rw [hj.ty h.blk];decide)
 ·exact Pm h.dict hj (fun e=>ht (by simp [e])) hk
theorem SpIn.own_set(h:SpIn w p d SD rv en mn sd m sh c L){s c1:Nat}{S:Nat->Prop}{isL:Bool}{le lm:Int}{E:List En}(hs:SetIs w s S isL le lm c1 E){j:Nat}(hj:S j):¬ J5 p SD rv j:=fun ho=>by
 rcases ho with hk|rfl|hk
 ·obtain ⟨cc,hb⟩:=X5 h.row hk;exact P5 hs hb (by decide) hj
 ·exact P5 hs h.blk (by decide) hj
 ·obtain ⟨t',c',ht',hb⟩:=h.dict.cells j hk;exact P5 hs (show Blk w j t' c' from hb) (by rcases ht' with rfl|rfl|rfl <;> decide) hj
theorem SpIn.rowed(h:SpIn w p d SD rv en mn sd m sh c L)(hs:L'.Sublist L)(hf:Far (fun j=>rv.ownBlock=some j) w W)(hr:W.ownsRow 0 X3 1 rv' L'.length (L'.map Yv)) :
 SpIn (W.setCell ⟨p,4,none⟩ rv') p d SD rv' en mn sd m sh c L'/\Far (fun j=>rv.ownBlock=some j\/j=p) w (W.setCell ⟨p,4,none⟩ rv'):=by
 have hF:Far (fun j=>rv.ownBlock=some j\/j=p) w (W.setCell ⟨p,4,none⟩ rv'):=(hf.mono fun _ h=>.inl h).set ⟨p,4,none⟩ rv' (.inl (.inr rfl));have hno:∀ {j:Nat},¬ J5 p SD rv j->¬ (rv.ownBlock=some j\/j=p):=fun hn h=>hn (h.elim .inl fun e=>.inr (.inl e))
 have hb:Blk W p Gm (spC en mn sd d rv):=hf.blk h.blk fun e=>by
  obtain ⟨cc,hb⟩:=X5 h.row e;exact absurd (h.blk.ty hb) (by decide)
 refine ⟨⟨?_,Pw hr fun k hk=>Below.heap_setCell _ _ _ _ fun e=>?_,h.dict.far (y4m hF) fun k hk e=>?_,fun t ht=>hF.blk (h.th t (hs.subset ht)) (hno (h.own_no (h.th t (hs.subset ht)) (by decide))),
  fun t ht=>(h.set t (hs.subset ht)).far hF fun k hk=>hno (h.own_set (h.set t (hs.subset ht)) hk),?_,(hs.map _).nodup h.qs,h.apart.sublist hs,fun t ht=>h.ksz t (hs.subset ht),fun t ht=>h.use t (hs.subset ht),h.sd⟩,hF⟩
 ·have:=hb.set 4 rv'
  simpa [spC] using this
 ·subst e;obtain ⟨cc,hb'⟩:=X5 hr hk;exact absurd (hb.ty hb') (by decide)
 ·rcases e with e|rfl
  ·obtain ⟨cc,hb'⟩:=X5 h.row e;exact Pm h.dict hb' (by decide) hk
  ·exact Pm h.dict h.blk (by decide) hk
 ·unfold Y6 itl;rw [List.map_map]
  have:=h.keys
  unfold Y6 itl at this;rw [List.map_map] at this;exact (hs.map _).nodup this
end
theorem z0n{w:World}{p d sd c:Nat}{SD:Nat->Prop}{rv:Value}{en mn:Int}{m:ByteArray->Option Addr}{sh:Dc.Sh}{L:List Th}(h:SpIn w p d SD rv en mn sd m sh c L)(hl:L.length<=100000)(k:ByteArray) :
 Calls Tryz.prog 83 #[.pointer (some ⟨p,0,none⟩),.string k] w fun e w'=>e=.returned (.tuple #[])/\∃ rv',rv'.ownBlock=rv.ownBlock/\SpIn w' p d SD rv' en mn sd m sh c (Yl L k)/\Far (fun j=>rv.ownBlock=some j\/j=p) w w':=by
 have hb0:=Z0 w (.cells #[.string k] 9);have h1:=h.later hb0;have HD:=jY (x1t L h.keys rv k w.heap.size hl (w.alloc (.cells #[.string k] 9)) h1.row h1.th (Blk.new w 9 #[.string k]));have a4:=h1.blk.cell 4;simp [spC] at a4;have H1:=jY h1;have HB:=jY hb0;clear h h1 hb0
 go_enter Tryz.func83,Tryz.ntmps83
 go_wp2_with fail;refine HD.out.mono ?_;rintro e w2 ⟨rv',rfl,hob,hr,hf⟩
 have hbl:Blk w2 p Gm (spC en mn sd d rv):=hf.blk H1.out.blk fun e=>by
  obtain ⟨cc,hb⟩:=X5 H1.out.row e;exact absurd (H1.out.blk.ty hb) (by decide)
 have b4:=hbl.cell 4;simp [spC] at b4;have f4:=hbl.free 4;have HR:=jY (H1.out.rowed (Qx L k) hf hr);obtain ⟨A,cap,hrv,_⟩:=M2 hr;subst hrv;have HO:=jY hob;clear hf hr hbl HD a4;go_wp2;go_returns;exact ⟨rfl,_,HO.out,HR.out.1,(Far.of_below HB.out).trans HR.out.2 fun j hj=>.inl hj⟩
structure Loose (W:World) (en mn:Int) (c:Nat) (L:List Th) (t:Th):Prop where
 th:Blk W t.q Uy (thC t.s t.toIt)
 set:SetIs W t.s t.S t.isL (Z6 en 200) (Z6 mn 64) c t.E
 q:∀ u∈L,u.q≠t.q
 apart:∀ u∈L,∀ k,u.S k->¬ t.S k
 use:Lf.Kg (t.uc,t.ua)
section
variable {W W' w w':World} {p d sd c:Nat} {SD:Nat->Prop} {rv rv':Value} {en mn:Int} {m:ByteArray->Option Addr} {sh:Dc.Sh} {L L':List Th} {t:Th}
theorem Loose.far{S1:Nat->Prop}(h:Loose W en mn c L t)(hf:Far S1 W W')(h1:¬ S1 t.q)(h2:∀ k,t.S k->¬ S1 k):Loose W' en mn c L t :=
 ⟨hf.blk h.th h1,h.set.far hf h2,h.q,h.apart,h.use⟩
theorem Loose.later(h:Loose W en mn c L t)(hb:Bl W W'):Loose W' en mn c L t:=h.far (S1:=fun _=>False) (Far.of_below hb) (fun h=>h) fun _ _ h=>h
theorem Loose.sub(h:Loose W en mn c L t)(hs:L'.Sublist L):Loose W en mn c L' t:=⟨h.th,h.set,fun u hu=>h.q u (hs.subset hu),fun u hu=>h.apart u (hs.subset hu),h.use⟩
theorem SpIn.loose(h:SpIn w p d SD rv en mn sd m sh c L)(ht:Loose w en mn c L' t)(hf:Far (J5 p SD rv) w w'):Loose w' en mn c L' t :=
 ht.far hf (h.own_no ht.th (by decide)) fun k hk=>h.own_set ht.set hk
theorem SpIn.taken(h:SpIn w p d SD rv en mn sd m sh c L)(ht:t∈L):Loose w en mn c (Yl L t.key) t:=by
 have hne:∀ u∈Yl L t.key,u∈L/\u.key≠t.key:=fun u hu=>(Qv h.keys t.key).1 hu;refine ⟨h.th t ht,h.set t ht,fun u hu e=>?_,fun u hu k hk hk2=>?_,h.use t ht⟩
 ·obtain ⟨h1,h2⟩:=hne u hu;obtain ⟨i,hi,rfl⟩:=List.mem_iff_getElem.1 h1;obtain ⟨j,hj,rfl⟩:=List.mem_iff_getElem.1 ht
  have:=(List.getElem_inj (i:=i) (j:=j) (h₀:=by simpa using hi) (h₁:=by simpa using hj) h.qs).1 (by simpa using e)
  subst this;exact h2 rfl
 ·obtain ⟨h1,h2⟩:=hne u hu;obtain ⟨i,hi,rfl⟩:=List.mem_iff_getElem.1 h1;obtain ⟨j,hj,rfl⟩:=List.mem_iff_getElem.1 ht;rcases Nat.lt_trichotomy i j with hij|hij|hij
  ·exact List.pairwise_iff_getElem.1 h.apart i j hi hj hij k hk hk2
  ·subst hij;exact h2 rfl
  ·exact List.pairwise_iff_getElem.1 h.apart j i hj hi hij k hk2 hk
def x1b(w:World)(p d:Nat)(SD:Nat->Prop)(rv:Value)(en mn:Int)(sd:Nat)(m:ByteArray->Option Addr)(sh:Dc.Sh)(c:Nat)(L:List Th)(k:ByteArray)(w':World):Prop :=
 ∃ rv' SD' sh',SpIn w' p d SD' rv' en mn sd (Dc.Dt.z9d m k) sh' c (Yl L k)/\(sh'.n=(if (m k).isSome then sh.n-1 else sh.n)/\(sh.low->sh.n<=500->sh'.low))/\(∀ j,J5 p SD' rv' j->J5 p SD rv j\/w.heap.size<=j)/\Far (J5 p SD rv) w w'
theorem x1z(h:SpIn w p d SD rv en mn sd m sh c L)(hl:L.length<=100000)(hn:sh.n<=1000000)(k:ByteArray)(hk:k.size<=281474976710656) :
 Calls Tryz.prog 54 #[.pointer (some ⟨p,0,none⟩),.string k] w fun e w'=>e=.returned (.tuple #[])/\x1b w p d SD rv en mn sd m sh c L k w':=by
 have HU:=jY (z0n h hl k);have hsd:=h.sd
 have HF:=jY (fun w1 rv1 (hob:rv1.ownBlock=rv.ownBlock) (h1:SpIn w1 p d SD rv1 en mn sd m sh c (Yl L k)) (hf:Far (fun j=>rv.ownBlock=some j\/j=p) w w1) w2 (hd:Dc.Dt.IsNow SD w1 d sd (Dc.Dt.z9d m k) (sh.del (m k).isSome) w2)=>show x1b w p d SD rv en mn sd m sh c L k w2 from by
  obtain ⟨g1,g2⟩:=h1.dicted hd;refine ⟨_,_,_,g1,?_,fun j hj=>?_,(hf.mono (S1:=J5 p SD rv) fun j hj=>hj.elim .inl fun e=>.inr (.inl e)).trans g2 fun j hj=>.inl (.inr (.inr hj))⟩
  ·exact ⟨by rw [Dc.y6d];cases (m k).isSome <;> rfl,fun hs hn=>Dc.x8n hs hn _⟩
  ·rcases hj with hj|hj|hj
   ·rw [hob] at hj;exact .inl (.inl hj)
   ·exact .inl (.inr (.inl hj))
   ·rcases hj.1 with h|h
    ·exact .inl (.inr (.inr h))
    ·exact .inr (lAe hf.size h))
 clear h
 go_enter Tryz.func54,Tryz.ntmps54
 go_wp2_with fail;refine HU.out.mono ?_;rintro e w1 ⟨rfl,rv1,hob,h1,hf⟩;have a3:=h1.blk.cell 3;simp [spC] at a3;have HD:=jY (Dc.Dt.y0v hsd h1.dict hn k hk);have HF1:=jY (HF.out w1 rv1 hob h1 hf);clear HF h1 hf hob HU;go_wp2_with fail;refine HD.out.mono ?_;rintro e w2 ⟨rfl,hd,_⟩;have HE:=jY (HF1.out w2 hd);clear hd HF1 HD;go_wp2;go_returns;exact ⟨rfl,HE.out⟩
end
theorem v1n:(Tryz.prog.info? 79).map (fun i=>(i.zero,i.size,i.bytes))=some (some (.pointer none),1,8):=by kernel_rfl
theorem x7f{W W6:World}{rv:Value}{L:List Th}(hr:W.ownsRow 0 X3 1 rv L.length (L.map Yv))(hb:Bl W W6)(t:Th)(hl:L.length<=1000000) :
 ∃ gg cap' W7,(Builtin.append_ #[65,65] 65 #[rv,.slice (some ⟨W6.heap.size,0,none⟩) 1 1]).run Tryz.prog (W6.alloc (.cells #[Yv t] X3))=.ok (.slice (some ⟨gg,0,none⟩) (L.length+1) cap') W7 /\
  W7.ownsRow 0 X3 1 (.slice (some ⟨gg,0,none⟩) (L.length+1) cap') (L++[t]).length ((L++[t]).map Yv)/\(W6.alloc (.cells #[Yv t] X3)).grownBy W7 rv.ownBlock/\(rv.ownBlock=some gg\/gg=W6.heap.size+1):=by
 obtain ⟨i0,hi0,hz0,hz1,hz2⟩:=info_parts v1n;have hB:Bl W (W6.alloc (.cells #[Yv t] X3)):=hb.trans ((Z0 W6 _).mono hb.size);have hk:(W6.alloc (.cells #[Yv t] X3)).ownsRow 0 X3 1 rv L.length (L.map Yv):=Pw hr fun k hk=>by obtain ⟨cc,hc⟩:=X5 hr hk;exact hB.block k hc.lt
 obtain ⟨v',w',hrun,r1,r2,r3,r4⟩:=run_append_own_at (P:=Tryz.prog) (W6.alloc (.cells #[Yv t] X3)) 0 65 65 X3 i0 _ 1 8 Tryz.underlying65 hi0 hz0 hz1 hz2 rfl (by decide) rv _ _ hk ⟨W6.heap.size,0,none⟩ 1 1 [Yv t] rfl
  (World.news_of_block (cs:=#[Yv t]) (t:=X3) (fr:=(0,0)) (heap_alloc_new _ _)) (fun u hu=>by simp at hu;subst hu;rfl) (by unfold maxLen;omega) (by omega) (Nat.zero_le _)
 rcases r1.2 with ⟨rfl,h0⟩|⟨gg,cap',cur,rfl,_⟩
 ·omega
 ·refine ⟨gg,cap',w',hrun,?_,r2,?_⟩
  ·rw [List.map_append,lAh];exact r1
  ·rcases r4 with h|h
   ·exact .inl h.symm
   ·right;simp [Value.ownBlock] at h;omega
section
variable {W W' w w':World} {p d sd c:Nat} {SD:Nat->Prop} {rv rv':Value} {en mn:Int} {m:ByteArray->Option Addr} {sh:Dc.Sh} {L L':List Th} {t:Th}
theorem SpIn.loose_no(h:SpIn w p d SD rv en mn sd m sh c L)(ht:Loose w en mn c L' t)(hq:∀ u∈L,u.q≠t.q):¬ spS p SD rv L t.q:=fun hs=>by
 rcases hs with e|hk|hk|⟨u,hu,e|hk⟩
 ·have:=ht.th;rw [e] at this;exact absurd (this.ty h.blk) (by decide)
 ·obtain ⟨cc,hb⟩:=X5 h.row hk;exact absurd (ht.th.ty hb) (by decide)
 ·exact Pm h.dict ht.th (by decide) hk
 ·exact hq u hu e.symm
 ·exact P5 (h.set u hu) ht.th (by decide) hk
def Th.named(t:Th)(k:ByteArray):Th:={ t with toIt:=t.toIt.named k }
theorem Loose.key(ht:Loose W en mn c L t)(k:ByteArray):Loose (W.setCell ⟨t.q,1,none⟩ (.string k)) en mn c L (t.named k)/\Far (fun j=>j=t.q) W (W.setCell ⟨t.q,1,none⟩ (.string k)):=by
 have hf:Far (fun j=>j=t.q) W (W.setCell ⟨t.q,1,none⟩ (.string k)):=(Far.refl _ _).set ⟨t.q,1,none⟩ _ (.inl rfl);refine ⟨⟨?_,ht.set.far hf fun j hj e=>by subst e;exact P5 ht.set ht.th (by decide) hj,ht.q,ht.apart,ht.use⟩,hf⟩
 have:=ht.th.set 1 (.string k)
 show Blk _ t.q Uy (thC t.s (t.toIt.named k))
 simpa [thC,It.named] using this
theorem SpIn.added(h:SpIn w p d SD rv en mn sd m sh c L)(ht:Loose w en mn c L t)(hkey:∀ u∈L,u.key≠t.key)(hk:t.key.size<=64)(hf:Far (fun j=>rv.ownBlock=some j) w W)(hr:W.ownsRow 0 X3 1 rv' (L++[t]).length ((L++[t]).map Yv)) :
 SpIn (W.setCell ⟨p,4,none⟩ rv') p d SD rv' en mn sd m sh c (L++[t])/\Far (fun j=>rv.ownBlock=some j\/j=p) w (W.setCell ⟨p,4,none⟩ rv'):=by
 have hF:Far (fun j=>rv.ownBlock=some j\/j=p) w (W.setCell ⟨p,4,none⟩ rv'):=(hf.mono fun _ h=>.inl h).set ⟨p,4,none⟩ rv' (.inl (.inr rfl));have hno:∀ {j:Nat},¬ J5 p SD rv j->¬ (rv.ownBlock=some j\/j=p):=fun hn h=>hn (h.elim .inl fun e=>.inr (.inl e))
 have hb:Blk W p Gm (spC en mn sd d rv):=hf.blk h.blk fun e=>by
  obtain ⟨cc,hb⟩:=X5 h.row e;exact absurd (h.blk.ty hb) (by decide)
 have hmem:∀ u∈L++[t],u∈L\/u=t:=fun u hu=>by simpa using hu
 refine ⟨⟨?_,Pw hr fun k hk=>Below.heap_setCell _ _ _ _ fun e=>?_,h.dict.far (y4m hF) fun k hk e=>?_,fun u hu=>?_,fun u hu=>?_,?_,?_,?_,fun u hu=>?_,fun u hu=>?_,h.sd⟩,hF⟩
 ·have:=hb.set 4 rv'
  simpa [spC] using this
 ·subst e;obtain ⟨cc,hb'⟩:=X5 hr hk;exact absurd (hb.ty hb') (by decide)
 ·rcases e with e|rfl
  ·obtain ⟨cc,hb'⟩:=X5 h.row e;exact Pm h.dict hb' (by decide) hk
  ·exact Pm h.dict h.blk (by decide) hk
 ·rcases hmem u hu with hu|rfl
  ·exact hF.blk (h.th u hu) (hno (h.own_no (h.th u hu) (by decide)))
  ·exact hF.blk ht.th (hno (h.own_no ht.th (by decide)))
 ·rcases hmem u hu with hu|rfl
  ·exact (h.set u hu).far hF fun k hk=>hno (h.own_set (h.set u hu) hk)
  ·exact ht.set.far hF fun k hk=>hno (h.own_set ht.set hk)
 ·unfold itl;rw [List.map_append];refine y7p h.keys ?_;unfold Xy;rw [List.find?_eq_none];intro x hx;obtain ⟨u,hu,rfl⟩:=List.mem_map.1 hx
  simpa using hkey u hu
 ·rw [List.map_append,List.nodup_append];refine ⟨h.qs,by simp,fun a ha b hb=>?_⟩;obtain ⟨u,hu,rfl⟩:=List.mem_map.1 ha;obtain rfl:b=t.q:=by simpa using hb
  exact ht.q u hu
 ·rw [List.pairwise_append];refine ⟨h.apart,by simp,fun u hu v hv=>?_⟩;obtain rfl:v=t:=by simpa using hv
  exact ht.apart u hu
 ·rcases hmem u hu with hu|rfl
  ·exact h.ksz u hu
  ·exact hk
 ·rcases hmem u hu with hu|rfl
  ·exact h.use u hu
  ·exact ht.use
def y0h(w:World)(p d:Nat)(SD:Nat->Prop)(rv:Value)(en mn:Int)(sd:Nat)(m:ByteArray->Option Addr)(sh:Dc.Sh)(c:Nat)(L:List Th)(k:ByteArray)(t:Th)(w':World):Prop :=
 ∃ rv' SD' sh',SpIn w' p d SD' rv' en mn sd (Dc.Dt.z8t m k ⟨t.q,0,none⟩) sh' c (Yl L k++[t.named k])/\(sh'.n=(if (m k).isSome then sh.n else sh.n+1)/\(sh.low->sh.n<=500->sh'.low))/\(∀ j,J5 p SD' rv' j->J5 p SD rv j\/w.heap.size<=j)/\Far (fun j=>J5 p SD rv j\/j=t.q) w w'
theorem x2v(h:SpIn w p d SD rv en mn sd m sh c L)(ht:Loose w en mn c L t)(hl:L.length<=100000)(hn:sh.n+1<=1000000)(k:ByteArray)(hk:k.size<=64) :
 Calls Tryz.prog 55 #[.pointer (some ⟨p,0,none⟩),.string k,.pointer (some ⟨t.q,0,none⟩)] w fun e w'=>e=.returned (.tuple #[])/\y0h w p d SD rv en mn sd m sh c L k t w':=by
 have HU:=jY (z0n h hl k);have hsd:=h.sd;have hkeys:=h.keys;have hrl:(Yl L k).length<=1000000:=lAe (Qx L k).length_le (by omega);have HC:=fun W=>jY (Dc.Ot k (by omega) W);have HW:=jY (show (∀ j,J5 p SD rv j->j<w.heap.size)/\t.q<w.heap.size from ⟨fun j hj=>h.lt (hj.elim (fun e=>.inr (.inl e)) fun e=>e.elim .inl fun e=>.inr (.inr (.inl e))),ht.th.lt⟩);have HL1:=jY (fun w1 (hf:Far (fun j=>rv.ownBlock=some j\/j=p) w w1)=>(h.loose ht (hf.mono fun j hj=>hj.elim .inl fun e=>.inr (.inl e))).sub (Qx L k));have HNE:=jY (fun u (hu:u∈Yl L k)=>((Qv hkeys k).1 hu).2);clear h ht hkeys
 go_enter Tryz.func55,Tryz.ntmps55
 go_wp2_with fail;refine HU.out.mono ?_;rintro e w1 ⟨rfl,rv1,hob,h1,hf1⟩;have hl1:=HL1.out w1 hf1;have H1:=jY h1;have L1:=jY hl1;have F1:=jY hf1;have HOB:=jY hob;clear h1 hl1 hf1 HU HL1 hob;go_wp2_with fail;refine (HC _).out.mono ?_;rintro e w2 ⟨rfl,hb2⟩;have hl2:=L1.out.later hb2;have h2:=H1.out.later hb2;have x1:=hl2.th.cell 1;have y1:=hl2.th.free 1;simp [thC] at x1;have hl3:=hl2.key k;have h3:=h2.far hl3.2 fun j hj e=>by subst e;exact h2.loose_no hl2 hl2.q hj
 have a4:=h3.blk.cell 4;have a3:=h3.blk.cell 3;have b4:=h3.blk.free 4;simp [spC] at a4 a3;have H3:=jY h3;have L3:=jY hl3.1;have F3:=jY ((F1.out.then_below hb2).mono (S1:=fun j=>J5 p SD rv j\/j=t.q) (fun j hj=>.inl (hj.elim .inl fun e=>.inr (.inl e))) |>.trans hl3.2 fun j hj=>.inl (.inr hj));clear h2 h3 hl2 hl3 hb2 H1 L1 F1 HC
 go_upto_region 2 with fail
 generalize w2.setCell ⟨t.q,1,none⟩ (.string k)=W3 at *;obtain ⟨gg,cap',W7,hrun,hr7,hg7,hgg⟩:=x7f H3.out.row (Below.refl _ _) (t.named k) hrl;rw [show Yv (t.named k)=.pointer (some ⟨t.q,0,none⟩) from rfl] at hrun hg7;have hf7:Far (fun j=>rv1.ownBlock=some j) W3 W7:=(Far.of_below (Z0 _ (.cells #[.pointer (some ⟨t.q,0,none⟩)] X3))).trans (y2r (Dc.Far.of_grown hg7 fun k hk=>.inl hk)) fun j hj=>.inl hj;have h7:=H3.out.added L3.out HNE.out hk hf7 hr7
 have hpb:Blk W7 p Gm (spC en mn sd d rv1):=hf7.blk H3.out.blk fun e=>by
  obtain ⟨cc,hb⟩:=X5 H3.out.row e;exact absurd (H3.out.blk.ty hb) (by decide)
 have c4:=hpb.cell 4;have d4:=hpb.free 4;simp [spC] at c4;have e3:=h7.1.blk.cell 3;simp [spC] at e3;have HST:=jY (Dc.Dt.y3u hsd h7.1.dict hn k (by omega) ⟨t.q,0,none⟩);have H7:=jY h7.1
 have F7:=jY (F3.out.trans (h7.2) fun j hj=>by
  rcases hj with hj|rfl
  ·exact .inl (.inl (.inl (by rw [<- HOB.out];exact hj)))
  ·exact .inl (.inl (.inr (.inl rfl))))
 have HGG:=jY (show ∀ j,Value.ownBlock (.slice (some ⟨gg,0,none⟩) ((Yl L k).length+1) cap')=some j->rv.ownBlock=some j\/w.heap.size<=j from fun j hj=>by
  obtain rfl:gg=j:=by simpa [Value.ownBlock] using hj
  rcases hgg with h|h
  ·exact .inl (by rw [<- HOB.out];exact h)
  ·have:=F3.out.size;exact .inr (by omega))
 obtain ⟨A1,cap1,hrv1,_⟩:=M2 H3.out.row;subst hrv1;clear hg7 hf7 h7 hpb hgg hr7
 go_wp2_with (at_builtin;refine Pk.Zw rfl _ _ 65 65 rfl rfl rfl hrun ?_;clear hrun)
 refine HST.out.mono ?_;rintro e w8 ⟨rfl,hd⟩
 have HE:=jY (show y0h w p d SD rv en mn sd m sh c L k t w8 from by
  obtain ⟨g1,g2⟩:=H7.out.dicted hd;refine ⟨_,_,_,g1,?_,fun j hj=>?_,F7.out.trans g2 fun j hj=>.inl (.inl (.inr (.inr hj)))⟩
  ·exact ⟨by rw [Dc.y6e];cases (m k).isSome <;> rfl,fun hs hn=>Dc.x8o hs hn _⟩
  ·rcases hj with hj|hj|hj
   ·exact (HGG.out j hj).elim (fun h=>.inl (.inl h)) .inr
   ·exact .inl (.inr (.inl hj))
   ·rcases hj.1 with h|h
    ·exact .inl (.inr (.inr h))
    ·exact .inr (lAe F7.out.size h))
 clear hd HST H7 F7 HGG;go_wp2;go_returns;exact ⟨rfl,HE.out⟩
end
end Go.Proofs.YtcklcmafohlflaaGreatDoor

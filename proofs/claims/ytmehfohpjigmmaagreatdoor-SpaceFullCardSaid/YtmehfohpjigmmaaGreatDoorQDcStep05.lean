/- Texts of one kind in one: DcStep, DcSlots, DcQuietIn, DcFind, DcDel, DcUpd. -/
import Derived.Test.YtmehfohpjigmmaaGreatDoorQSnPos04
set_option maxRecDepth 200000
set_option maxHeartbeats 8000000
namespace Go.Proofs.YtmehfohpjigmmaaGreatDoor.Dc
open Zc
open Go.RowKit Go.Shelf
attribute [local go_sem] Oper.semAt_some
def Dc.left(D:Dc):Nat:=if D.b=[] then 0 else D.a.length-D.place
def Dc.run:Nat->Dc->Dc
 | 0,D=>D
 | k+1,D=>(Dc.run k D).move1
def Dc.step(n:Nat)(D:Dc):Dc:=Dc.run (min n D.left) D
theorem D8{rows:List (List Nd)}(h:rows≠[])(xs:List Nd):Yi rows xs≠[]:=fun e=>by
 have:=congrArg List.length e
 rw [Y3] at this;exact h (List.eq_nil_of_length_eq_zero (by simpa using this))
theorem Kq(rows:List (List Nd)):∀ i,(rows.set i []).flatten.length+(rows.getD i []).length=rows.flatten.length:=by
 induction rows with
 | nil=>intro i;simp
 | cons y rows ih =>
   intro i
   cases i with
   | zero=>simp;omega
   | succ i=>have:=ih i;simp at this ⊢;omega
theorem Mu{T:Ty}(rows:List (List Nd))(x:Nd)(hx:x.fine T)(h:∀ r∈rows,∀ y∈r,y.fine T):∀ r∈X4 rows x,∀ y∈r,y.fine T:=by
 intro r hr y hy;unfold X4 at hr;rcases List.mem_or_eq_of_mem_set hr with h1|rfl
 ·exact h r h1 y hy
 ·rcases List.mem_append.1 hy with h1|h1
  ·rw [List.getD_eq_getElem?_getD] at h1
   cases hg:rows[x.sum % rows.length]? with
   | none=>rw [hg] at h1;simp at h1
   | some r0=>rw [hg] at h1;exact h r0 (List.mem_of_getElem? hg) y h1
  ·simp at h1;subst h1;exact hx
theorem z4g{T:Ty}(xs:List Nd):∀ rows:List (List Nd),(∀ x∈xs,x.fine T)->(∀ r∈rows,∀ y∈r,y.fine T)->∀ r∈Yi rows xs,∀ y∈r,y.fine T:=by
 induction xs with
 | nil=>intro rows _ h;exact h
 | cons x xs ih=>intro rows hx h;exact ih (X4 rows x) (fun y hy=>hx y (List.mem_cons_of_mem _ hy)) (Mu rows x (hx x (List.mem_cons_self ..)) h)
theorem On{rows:List (List Nd)}{i:Nat}{x:Nd}(h:x∈rows.getD i []):∃ r∈rows,x∈r:=by
 rw [List.getD_eq_getElem?_getD] at h
 cases hg:rows[i]? with
 | none=>rw [hg] at h;simp at h
 | some r0=>rw [hg] at h;exact ⟨r0,List.mem_of_getElem? hg,h⟩
theorem Om(rows:List (List Nd))(h:∀ i,i<rows.length->rows.getD i []=[]):rows.flatten.length=0:=by
 induction rows with
 | nil=>rfl
 | cons y rows ih =>
   have h0:=h 0 (by simp);have h1:=ih fun i hi=>by have:=h (i+1) (by simp;omega);simpa using this
   simp at h0 h1 ⊢;exact ⟨h0,h1⟩
theorem Vx(rows:List (List Nd))(i j:Nat)(r:List Nd)(h:j≠i):(rows.set i r).getD j []=rows.getD j []:=by
 rw [List.getD_eq_getElem?_getD,List.getD_eq_getElem?_getD,List.getElem?_set_ne (fun e=>h e.symm)]
theorem Um(rows:List (List Nd))(i:Nat):(rows.set i []).getD i []=[]:=by
 rw [List.getD_eq_getElem?_getD,List.getElem?_set,if_pos rfl]
 split <;> rfl
theorem Dc.Ok.move1{T:Ty}{D:Dc}(h:D.Ok T)(hb:D.b≠[]):D.move1.Ok T:=by
 have hp:=h.place hb;have hf:∀ x∈D.a.getD D.place [],x.fine T:=fun x hx=>by obtain ⟨r,hr,hx⟩:=On hx;exact h.fine r (.inl hr) x hx
 have hput:=z4g _ D.b hf (fun r hr=>h.fine r (.inr hr));have hlen:=Y3 (D.a.getD D.place []) D.b;have hbl:=Zm (h.b hb);have htot:=O5 (D.a.getD D.place []) D.b (by omega);have hset:=Kq D.a D.place;unfold Dc.move1
 split
 ·rename_i hl;refine ⟨by rw [hlen];exact h.b hb,fun e=>absurd rfl e,fun e=>absurd rfl e,fun _=>rfl,fun i hi=>absurd hi (Nat.not_lt_zero _),?_,?_⟩
  ·simp only [List.flatten_nil,List.length_nil]
   have:=h.n
   have h0:=Om (D.a.set D.place []) (fun i hi=>by
    rw [List.length_set] at hi
    by_cases e:i=D.place
    ·subst e;exact Um _ _
    ·rw [Vx _ _ _ _ e];exact h.past i (by omega))
   omega
  ·intro r hr x hx;rcases hr with hr|hr
   ·exact hput r hr x hx
   ·simp at hr
 ·rename_i hl;refine ⟨by rw [List.length_set];exact h.a,fun _=>by rw [hlen];exact h.b hb,fun _=>by rw [List.length_set];show D.place+1<_;omega,fun e=>absurd e (D8 hb _),fun i hi=>?_,?_,?_⟩
  ·have hi':i<D.place+1:=hi;show (D.a.set D.place []).getD i []=[]
   by_cases e:i=D.place
   ·subst e;exact Um _ _
   ·rw [Vx _ _ _ _ e];exact h.past i (by omega)
  ·show D.n=(D.a.set D.place []).flatten.length+(Yi D.b _).flatten.length
   have:=h.n
   omega
  ·intro r hr x hx;rcases hr with hr|hr
   ·rcases List.mem_or_eq_of_mem_set hr with h1|rfl
    ·exact h.fine r (.inl h1) x hx
    ·simp at hx
   ·exact hput r hr x hx
theorem z0a{T:Ty}{D:Dc}(h:D.Ok T)(hb:D.b≠[]):D.move1.left=D.left-1/\0<D.left/\(1<D.left->D.move1.b≠[]/\D.move1.place=D.place+1):=by
 have hp:=h.place hb;have hl:D.left=D.a.length-D.place:=by unfold Dc.left;rw [if_neg hb]
 unfold Dc.move1
 split
 ·rename_i e;refine ⟨?_,by omega,fun h1=>by omega⟩;rw [hl];unfold Dc.left;rw [if_pos rfl];omega
 ·rename_i e;refine ⟨?_,by omega,fun h1=>⟨D8 hb _,rfl⟩⟩;rw [hl];unfold Dc.left;rw [if_neg (D8 hb _)];simp only [List.length_set];omega
theorem y1b(D:Dc):D.move1.n=D.n:=by unfold Dc.move1;split <;> rfl
theorem Vj{T:Ty}{D:Dc}(h:D.Ok T):∀ k,k<=D.left->(Dc.run k D).Ok T/\(Dc.run k D).left=D.left-k/\(Dc.run k D).n=D.n/\(k<D.left->(Dc.run k D).b≠[]/\(Dc.run k D).place=D.place+k):=by
 intro k
 induction k with
 | zero =>
   intro _;refine ⟨h,rfl,rfl,fun h0=>⟨fun e=>?_,rfl⟩⟩;have h1:0<D.left:=h0;unfold Dc.left at h1;rw [if_pos (show D.b=[] from e)] at h1;exact absurd h1 (Nat.lt_irrefl 0)
 | succ k ih =>
   intro hk;obtain ⟨h1,h2,h3,h4⟩:=ih (by omega);obtain ⟨h5,h6⟩:=h4 (by omega);obtain ⟨h7,h8,h9⟩:=z0a h1 h5;refine ⟨h1.move1 h5,?_,(y1b _).trans h3,fun hlt=>?_⟩
   ·show (Dc.run k D).move1.left=_;omega
   ·obtain ⟨h10,h11⟩:=h9 (by omega);refine ⟨h10,?_⟩;show (Dc.run k D).move1.place=_;omega
def If(_:Nat)(x:Nat):Array Value:=#[.int .i64 x]
section
variable {S:Nat->Prop} {p seed:Nat} {D:Dc} {w:World}
theorem Qt(h:Rep tyI w p S seed D)(ok:D.Ok tyI)(L:List Nat):By Tryz.prog 209 #[.pointer (some ⟨p,0,none⟩)] #[] If (List.range' D.place D.left) L w:=by
 intro l J Jx W hW hJ hJx hY hJ0;have hR:=h.later hW;have hmv:=X2 hR;refine callsIn_of_wp Tryz.func209 rfl trivial ?_ rfl;simp only [Tryz.ntmps209,List.size_toArray,List.length_cons,List.length_nil,Nat.reduceAdd,Nat.reduceSub,Array.replicate_succ,Array.replicate_zero,List.push_toArray,List.append_toArray,List.nil_append,List.cons_append,List.append_nil];have HY:=jY hY;clear hY;obtain ⟨g0,g1,A1,va,vb,hm,_,_⟩:=hR;obtain ⟨c0,c1,c2,c3,c4,f0,f1,f3,f4⟩:=Zk hm
 cases hb:D.moving with
 | false =>
   have hl:D.left=0:=by unfold Dc.left;rw [if_pos ((Yj D).1 hb)]
   rw [hb] at hmv;have HM:=jY hmv;have HL:=jY hl;clear hmv hm hb hl h ok
   gi_wp2_with fail
   refine ⟨trivial,?_⟩;refine callsIn_wide.2 (Calls.mono HM.out ?_);rintro e w1 ⟨rfl,rfl⟩;gi_wp2;go_returns;exact ⟨⟨_,rfl⟩,.inl (by rw [HL.out];exact hJ0)⟩
 | true =>
   have hbn:=z9y hb;have hpl:=ok.place hbn;have hl:D.left=D.a.length-D.place:=by unfold Dc.left;rw [if_neg hbn]
   have hal:=(Zm ok.a).2;rw [hb] at hmv;have HM:=jY hmv;clear hmv hm hb h ok;have hpl2:(D.place:Int)<D.a.length:=by omega
   gi_wp2_with fail
   refine ⟨trivial,?_⟩;refine callsIn_wide.2 (Calls.mono HM.out ?_);rintro e w1 ⟨rfl,rfl⟩;gi_wp2
   gi_loopw [5] (fun s wr=>∃ (i:Nat),s=.int .i64 (D.place+i:Nat)/\i<=D.left/\J i wr) (fun s _=>D.a.length-(intOf s).toNat)
   case atStart=>exact ⟨0,rfl,by omega,hJ0⟩
   case round =>
    clear c0 c1 c2 c3 c4 f0 f1 f3 f4;obtain ⟨i,rfl,hi,hJi⟩:=hrel
    by_cases hlt:i<D.left
    ·have hx:(List.range' D.place D.left)[i]?=some (D.place+i):=by rw [List.getElem?_range' hlt];simp
     obtain ⟨fn,tmps,assign,body,hy,hRd⟩:=HY.out i _ wr hx hJi;unfold If at hy;have hq:((D.place+i:Nat):Int)<D.a.length:=by omega
     have hq2:((D.place+i:Nat):Int)<=65536:=by omega
     have HI:=jY hi;have HL:=jY hl;clear hl hx;generalize hs:D.place+i=s at *;have HS:=jY hs;clear hs
     gi_wp2_with fail
     (try refine ⟨fun _=>by decide,?_⟩)
     refine hRd.mono ?_;rintro e W3 (⟨rfl,hJ3,hk3⟩|⟨rfl,hJx3⟩)
     ·clear hRd hy;gi_wp2
      have:=HS.out
      refine ⟨⟨i+1,by congr 1;omega,hlt,hJ3⟩,?_⟩;simp only [intOf];omega
     ·gi_wp2
      go_end0
      exact ⟨⟨_,rfl⟩,.inr ⟨_,hJx3⟩⟩
    ·obtain rfl:i=D.left:=by omega
     have hq:¬ ((D.place+D.left:Nat):Int)<D.a.length:=by omega
     gi_wp2;refine ⟨fun _ h=>(by cases h),?_⟩;gi_wp2
     go_end0
     exact ⟨⟨_,rfl⟩,.inl (by rw [List.length_range'];exact hJi)⟩
theorem Yf{T:Ty}{W:World}{k:Nat}{t:TypeId}{c:Array Value}(h:Blk W k t c)(ht:¬ (t=T.d\/t=T.t\/t=T.r)):¬ CellB T W k:=fun ⟨t',c',h1,h2⟩=>ht (by rw [h.ty h2];exact h1)
theorem Went.blk{T:Ty}{S:Nat->Prop}{w W:World}{p seed:Nat}{D:Dc}(h:Went T S w p seed D W){k:Nat}{t:TypeId}{c:Array Value}(hk:Blk w k t c)(hS:∀ k,S k->CellB T w k)(ht:¬ (t=T.d\/t=T.t\/t=T.r)):Blk W k t c :=
 h.2.blk hk fun hs=>Yf hk ht (hS k hs)
theorem Yv{T:Ty}{β:Type}(B:Nat){S:Nat->Prop}{w:World}(hB:w.heap.size<=B)(p seed:Nat)(D:β->Dc):OwnFrom B (fun s W=>Went T S w p seed (D s) W):=fun s X Y row hs hg hr=>by
 have hf:Far (fun k=>row=some k) X Y:=Far.of_grown hg fun k e=>.inl e
 have hR:Rep T Y p (Xe T S w X) seed (D s):=hs.1.far hf fun k hk e=>by
  obtain ⟨_,o,ho,hc⟩:=hr k e;obtain ⟨t,c,_,hb⟩:=hk.2;rw [show X.heap[k]?=_ from hb] at ho
  cases ho;cases hc
 exact ⟨hR.wide (fun k hk=>⟨hk.1,hR.cells k hk⟩) (fun _ hk=>hk.2),hs.2.trans hf fun k e=>.inr (by have:=(hr k e).1;omega)⟩
theorem y4t:¬ itT tyI.d/\¬ itT tyI.t/\¬ itT tyI.r:=by unfold itT tyI;decide
theorem I5(h:Rep tyI w p S seed D)(ok:D.Ok tyI)(hn:D.n<=1000000)(n:Int) :
 Calls Tryz.prog 200 #[.pointer (some ⟨p,0,none⟩),.int .i64 n] w fun e w'=>e=.returned (.int .i64 (min n.toNat D.left:Nat))/\Went tyI S w p seed (D.step n.toNat) w':=by
 refine (callsIn_wide (n:=6)).1 (callsIn_of_wp_marks Tryz.func200 rfl trivial ?_ rfl);refine wpIn_wide.2 ?_;simp only [Tryz.ntmps200,List.size_toArray,List.length_cons,List.length_nil,Nat.reduceAdd,Nat.reduceSub,Array.replicate_succ,Array.replicate_zero,List.push_toArray,List.append_toArray,List.nil_append,List.cons_append];have hal:=(Zm ok.a).2;have hll:D.left<=65536:=by unfold Dc.left;split <;> omega
 have hfacts:=fun k hk=>jY (Vj ok k hk);go_wp2;refine wp_scope_straight ?_;go_wp2;refine wp_label ?_;go_wp2;have k1:=((Blk.new w 234 #[Value.pointer (some ⟨p,0,none⟩)]).alloc (Obj.cells #[Value.int .i64 n] 3)).alloc (Obj.cells #[Value.int .i64 0] 3);have k2:=(Blk.new (w.alloc (Obj.cells #[Value.pointer (some ⟨p,0,none⟩)] 234)) 3 #[Value.int .i64 n]).alloc (Obj.cells #[Value.int .i64 0] 3);have k3:=Blk.new ((w.alloc (Obj.cells #[Value.pointer (some ⟨p,0,none⟩)] 234)).alloc (Obj.cells #[Value.int .i64 n] 3)) 3 #[Value.int .i64 0];simp only [World.size_alloc] at k2 k3;have hB:=(((Below.refl w.heap.size w).alloc (Nat.le_refl _) (Obj.cells #[Value.pointer (some ⟨p,0,none⟩)] 234)).alloc (by simp) (Obj.cells #[Value.int .i64 n] 3)).alloc (by simp;omega) (Obj.cells #[Value.int .i64 0] 3);have hsz:(((w.alloc (Obj.cells #[Value.pointer (some ⟨p,0,none⟩)] 234)).alloc (Obj.cells #[Value.int .i64 n] 3)).alloc (Obj.cells #[Value.int .i64 0] 3)).heap.size=w.heap.size+3:=by simp
 generalize (((w.alloc (Obj.cells #[Value.pointer (some ⟨p,0,none⟩)] 234)).alloc (Obj.cells #[Value.int .i64 n] 3)).alloc (Obj.cells #[Value.int .i64 0] 3))=w1 at *
 refine (wpIn_wide (n:=6)).1 (Pb (gf:=209) (fb:=#[.pointer (some ⟨p,0,none⟩)]) (lb:=#[]) (encs:=If) (xs:=List.range' D.place D.left) (L:=[w.heap.size+2]) rfl (enters_of Tryz.func209 (by kernel_rfl) rfl) (Qt (h.later hB) ok _) (fun _ _=>rfl)
  (fun i W=>(i:Int)<=n.toNat/\i<=D.left/\Went tyI S w p seed (Dc.run i D) W/\Blk W w.heap.size 234 #[.pointer (some ⟨p,0,none⟩)]/\Blk W (w.heap.size+1) 3 #[.int .i64 n]/\Blk W (w.heap.size+2) 3 #[Value.int IntKind.i64 i])
  (fun c _ W=>match c with
    | .exit id=>id=0/\n.toNat<=D.left/\Went tyI S w p seed (Dc.run n.toNat D) W/\Blk W (w.heap.size+2) 3 #[.int .i64 n.toNat]
    | _=>False)
  ?hI ?hIx ?h0 (fun i x a' W=>a'={ tmps:=#[Value.pointer (some ⟨p,0,none⟩),Value.int IntKind.i64 n,Value.pointer (some { block:=w.heap.size,off:=0 }),Value.pointer (some { block:=w.heap.size+1,off:=0 }),
   Value.int IntKind.i64 0,Value.pointer (some { block:=w.heap.size+2,off:=0 }),Value.int IntKind.i64 x,Value.pointer (some ⟨p,0,none⟩),Value.func (Fn.func 209) #[Value.pointer (some ⟨p,0,none⟩)] #[],Value.int IntKind.i64 x,
   undef,undef,undef,undef,undef,undef,undef,undef,undef],defers:=[] })
  (fun _ _ _=>Z0 _ _) ?assign ?body ?done ?stop)
 case hI=>exact (Z0 _ _).and ((Z0 _ _).and ((Yv _ (by omega) _ _ _).and ((Zb _ _ _ _).and ((Zb _ _ _ _).and (Zb _ _ _ _)))))
 case hIx =>
  intro c
  cases c with
  | exit id=>exact (Z0 _ _).and ((Z0 _ _).and ((Yv _ (by omega) _ _ (fun _=>_)).and (Zb _ _ _ _)))
  | _=>exact Z0 _ _
 case h0=>exact ⟨by omega,by omega,(Went.start h).later hB,k1,k2,k3⟩
 case assign =>
  rintro l i x W K hx' ⟨hi,hi2,q0,q1,q2,q3⟩ hK;unfold If;gi_wp2;exact hK _ _ (KeepsFrom.refl _ _) (KeepC.refl _ _) ⟨hi,hi2,q0,q1,q2,q3⟩ rfl
 case body =>
  rintro l i x a' W hx' ⟨hi,hi2,q0,q1,q2,q3⟩ rfl;obtain ⟨hlt,hxe⟩:=List.getElem?_eq_some_iff.1 hx';rw [List.length_range'] at hlt;rw [List.getElem_range'] at hxe;obtain rfl:x=D.place+i:=by omega
  obtain ⟨ok1,_,hn1,hfi⟩:=(hfacts i hi2).out;obtain ⟨hbi,hpi⟩:=hfi hlt;obtain ⟨c1,d1⟩:=Z4 q1;obtain ⟨c2,d2⟩:=Z4 q2;obtain ⟨c3,d3⟩:=Z4 q3;have hMV:=Jo q0.1 ok1 hbi (by omega);rw [hpi] at hMV;have HMV:=jY hMV;have Q0:=jY q0;have Q1:=jY q1;have Q2:=jY q2;have Q3:=jY q3;clear hMV hxe k1 k2 k3 q0 q1 q2 q3 hpi hx' hn1;have hi3:(i:Int)<=65536:=by omega
  by_cases hni:n<=(i:Int)
  ·have hin:n.toNat=i:=by omega
   gi_wp2;refine ⟨KeepsFrom.refl _ _,rfl,by omega,?_,?_⟩
   ·rw [hin];exact Q0.out
   ·rw [hin];exact Q3.out
  ·have hni2:(i:Int)<n:=by omega
   clear hni
   gi_wp2_with fail
   (try refine ⟨trivial,?_⟩)
   refine (CallsIn.inRound l (callsIn_wide.2 HMV.out)).mono ?_;rintro e W2 ⟨rfl,hw⟩;have q1':=hw.blk Q1.out (fun k hk=>hk.2) (by decide);have q2':=hw.blk Q2.out (fun k hk=>hk.2) (by decide);have q3':=hw.blk Q3.out (fun k hk=>hk.2) (by decide);obtain ⟨e3,g3⟩:=Z4 q3';have hkf:=hw.2.keeps (fun k hk=>hk.2) w1.heap.size;have hkc:=hw.2.keepc (fun k hk=>hk.2) y4t [w.heap.size+2];have HW:=jY (Q0.out.trans hw);have P1:=jY q1';have P2:=jY q2';have P3:=jY q3';clear hw q1' q2' q3';gi_wp2;refine ⟨hkf.trans ((KeepsOthers.setCell _ _ _).from _),hkc.trans (KeepC.set _ _ _ _ (by simp)),by omega,hlt,?_,?_,?_,?_⟩
   ·have hz:=HW.out.2.size
    have:=(HW.out.1.far (S1:=fun k=>k=w.heap.size+2) (W':=W2.setCell ⟨w.heap.size+2,0,none⟩ (.int .i64 ((i:Int)+1))) ((Far.refl _ _).set _ _ (.inl rfl)) (fun k hk e=>by subst e;exact Yf P3.out (by decide) hk.2))
    exact ⟨this.wide (fun k hk=>⟨hk.1,this.cells k hk⟩) (fun _ hk=>hk.2),HW.out.2.set _ _ (.inr (by simp))⟩
   ·exact P1.out.setOther 0 _ (by omega)
   ·exact P2.out.setOther 0 _ (by omega)
   ·exact P3.out.set 0 _
 case done =>
  rintro Dd W hD ⟨hi,hi2,q0,q1,q2,q3⟩ hK;rw [List.length_range'] at *;obtain ⟨c3,d3⟩:=Z4 q3;have HK:=jY hK;have Q0:=jY q0;clear hK q0 q1 q2 q3 k1 k2 k3;have hmin:min n.toNat D.left=D.left:=by omega
  simp only [Exit.inBlock,Exit.then];go_wp2;refine Zp (v:=.int .i64 D.left) rfl HK.out (by simp [results,Tryz.results200,go_sem]) ⟨by rw [hmin],?_⟩;unfold Dc.step;rw [hmin];exact (Yv (β:=Unit) w.heap.size (Nat.le_refl _) p seed (fun _=>_)).putObj (s:=()) _ Q0.out (by omega) HK.out rfl
 case stop =>
  rintro Dd c j W hD hI hK
  cases c with
  | exit id =>
    obtain ⟨rfl,hi2,q0,q3⟩:=hI;obtain ⟨c3,d3⟩:=Z4 q3;have HK:=jY hK;have Q0:=jY q0;clear hK q0 q3 k1 k2 k3;have hmin:min n.toNat D.left=n.toNat:=by omega
    refine wpIn_wide.2 ?_;go_wp2;refine Zp (v:=.int .i64 (n.toNat:Nat)) rfl HK.out (by simp [results,Tryz.results200,go_sem]) ⟨by rw [hmin],?_⟩;unfold Dc.step;rw [hmin];exact (Yv (β:=Unit) w.heap.size (Nat.le_refl _) p seed (fun _=>_)).putObj (s:=()) _ Q0.out (by omega) HK.out rfl
  | _=>exact hI.elim
end
def Ig(_:Nat)(x:Nat × Nat):Array Value:=#[.pointer (some ⟨x.1,x.2,none⟩)]
def Dc.slots(D:Dc)(g0 g1 sum:Nat):List (Nat × Nat):=(g0,sum % D.a.length) :: if D.b=[] then [] else [(g1,sum % D.b.length)]
section
variable {S:Nat->Prop} {p seed:Nat} {D:Dc} {w:World}
theorem My(sum:Nat)(w:World):Calls Tryz.prog 201 #[.pointer (some ⟨p,0,none⟩),.int .u32 sum] w fun e w' =>
 e=.returned (.func (.func 211) #[] #[.pointer (some ⟨w.heap.size,0,none⟩),.pointer (some ⟨w.heap.size+1,0,none⟩)])/\w'=(w.alloc (Obj.cells #[.pointer (some ⟨p,0,none⟩)] 234)).alloc (Obj.cells #[.int .u32 sum] 24):=by
 go_enter Tryz.func201,Tryz.ntmps201
 go_wp2;go_ret;exact ⟨rfl,rfl⟩
theorem Ma{n:Nat}(s:Nat)(h:isS (n:Int)=true):Pp s n=.tuple #[.int .i64 (s % n:Nat),.int .i64 0]:=by
 unfold Pp;rw [if_pos h];simp
theorem I4(s:Nat):Pp s ((0:Nat):Int)=.tuple #[.int .i64 0,.int .i64 2]:=by
 have:isS (0:Int)=false:=by decide +kernel
 unfold Pp;simp [this]
theorem Au(a:Option Addr)(n c:Nat)(a':Option Addr)(n' c':Nat)(W:World):(Instr.index 260 (.agg #[.slice a n c,.slice a' n' c']) (.int .i64 0)).run Tryz.prog W=.ok (.slice a n c) W:=by
 simp [Instr.index,run_underlying Tryz.underlying260,asIntOf,go_sem]
theorem Av(a:Option Addr)(n c:Nat)(a':Option Addr)(n' c':Nat)(W:World):(Instr.index 260 (.agg #[.slice a n c,.slice a' n' c']) (.int .i64 1)).run Tryz.prog W=.ok (.slice a' n' c') W:=by
 simp [Instr.index,run_underlying Tryz.underlying260,asIntOf,go_sem]
theorem Ob{g0 g1:Nat}{A1:Option Addr}{va vb:List Value}(h:Mem tyI w p g0 g1 A1 va vb seed D)(ok:D.Ok tyI)(sum:Nat)(hs:sum<4294967296)(B1 B2:Nat)(h1:Blk w B1 234 #[.pointer (some ⟨p,0,none⟩)])(h2:Blk w B2 24 #[.int .u32 sum])(L:List Nat)(hL1:B1 ∉ L)(hL2:B2 ∉ L) :
 Kn itT Tryz.prog 211 #[.pointer (some ⟨B1,0,none⟩),.pointer (some ⟨B2,0,none⟩)] Ig (D.slots g0 g1 sum) L w:=by
 intro l J Jx W hW hJ hJx hY hJ0;have hm:=h.later hW;have k1:=h1.later hW;have k2:=h2.later hW;obtain ⟨c0,c1,c2,c3,c4,f0,f1,f3,f4⟩:=Zk hm;obtain ⟨d1,e1⟩:=Z4 k1;obtain ⟨d2,e2⟩:=Z4 k2;have hal:=Zm ok.a;have HI0:=fun w=>Vs sum hs D.a.length w;rw [Ma sum ok.a] at HI0;have hlt0:sum % D.a.length<D.a.length:=Nat.mod_lt _ (by omega);have hlt0':((sum % D.a.length:Nat):Int)<D.a.length:=by omega
 have hsl0:(D.slots g0 g1 sum)[0]?=some (g0,sum % D.a.length):=rfl;have HI1:=fun w=>Vs sum hs D.b.length w
 have hbl:D.b.length<=65536:=by
  by_cases hb:D.b=[]
  ·rw [hb];simp
  ·have:=Zm (ok.b hb);omega
 refine callsIn_of_wp Tryz.func211 rfl trivial ?_ rfl;simp only [Tryz.ntmps211,List.size_toArray,List.length_cons,List.length_nil,Nat.reduceAdd,Nat.reduceSub,Array.replicate_succ,Array.replicate_zero,List.push_toArray,List.append_toArray,List.nil_append,List.cons_append]
 have HA:Hid (D.b≠[]->A1=some ⟨g1,0,none⟩):=jY (fun hb=>by
  rcases hm.tb with ⟨h,_⟩|⟨_,h,_⟩
  ·exact absurd h hb
  ·exact h)
 have HY:=jY hY;clear hY hm h h1 h2;have HK1:=jY k1;have HK2:=jY k2;have HL0:=jY hsl0;clear k1 k2 hsl0;generalize sum % D.a.length=j0 at *;have hx0:=Au;have hx1:=Av;gi_wp2
 gi_loopw [12] (fun s wr=>∃ (i:Nat),s=.int .i64 i/\i<=2/\Blk wr B1 234 #[.pointer (some ⟨p,0,none⟩)]/\Blk wr B2 24 #[.int .u32 sum]/\(i=0/\J 0 wr\/i=1/\J 1 wr\/i=2/\J (D.slots g0 g1 sum).length wr)) (fun s _=>2-(intOf s).toNat)
 case atStart=>exact ⟨0,rfl,by omega,HK1.out,HK2.out,.inl ⟨rfl,hJ0⟩⟩
 case round =>
  obtain ⟨i,rfl,hi,q1,q2,hJi⟩:=hrel;clear c0 c1 c2 c3 c4 f0 f1 f3 f4 d1 e1 d2 e2 HK1 HK2;obtain ⟨d1,e1⟩:=Z4 q1;obtain ⟨d2,e2⟩:=Z4 q2;have Q1:=jY q1;have Q2:=jY q2;clear q1 q2;rcases hJi with ⟨rfl,hJi⟩|⟨rfl,hJi⟩|⟨rfl,hJi⟩
  ·obtain ⟨fn,tmps,assign,body,hy,hRd⟩:=HY.out 0 _ wr HL0.out hJi;have HRd:=jY (HY.out 0 _ · HL0.out);clear hRd hy fn tmps assign body
   gi_wp2_with fail
   refine ⟨trivial,?_⟩;refine callsIn_wide.2 (Calls.mono (HI0 _) ?_);rintro e w2 ⟨rfl,hb2⟩;obtain ⟨fn,tmps,assign,body,hy,hRd⟩:=HRd.out w2 (hJ _ _ _ hJi hb2);unfold Ig at hy;have q1:=Q1.out.later hb2;have q2:=Q2.out.later hb2;have P1:=jY q1;have P2:=jY q2;clear q1 q2
   gi_wp2_with fail
   (try refine ⟨fun _=>by decide,?_⟩)
   refine hRd.mono ?_;rintro e W3 (⟨rfl,hJ3,hk3⟩|⟨rfl,hJx3⟩)
   ·have q1:=P1.out.keep hk3 hL1;have q2:=P2.out.keep hk3 hL2;clear hRd hy;gi_wp2;refine ⟨⟨1,rfl,by omega,q1,q2,.inr (.inl ⟨rfl,hJ3⟩)⟩,?_⟩;simp [intOf]
   ·gi_wp2;go_returns;exact ⟨⟨_,rfl⟩,.inr ⟨_,hJx3⟩⟩
  ·by_cases hb:D.b=[]
   ·have hln:(D.slots g0 g1 sum).length=1:=by unfold Dc.slots;rw [if_pos hb];rfl
    have hb0:D.b.length=0:=by rw [hb];rfl
    rw [hb0] at HI1;rw [I4] at HI1;have HN:=jY hln;have HB:=jY hb;clear hb hln;rw [hb0];clear hb0
    gi_wp2_with fail
    refine ⟨trivial,?_⟩;refine callsIn_wide.2 (Calls.mono (HI1 _) ?_);rintro e w2 ⟨rfl,hb2⟩;have hJ2:=hJ _ _ _ hJi hb2;have q1:=Q1.out.later hb2;have q2:=Q2.out.later hb2;have P1:=jY q1;have P2:=jY q2;clear q1 q2;gi_wp2;refine ⟨fun _ h=>(by cases h),?_⟩;gi_wp2;refine ⟨⟨2,rfl,by omega,P1.out,P2.out,.inr (.inr ⟨rfl,by rw [HN.out];exact hJ2⟩)⟩,?_⟩;simp [intOf]
   ·have hln:(D.slots g0 g1 sum).length=2:=by unfold Dc.slots;rw [if_neg hb];rfl
    have hs1:(D.slots g0 g1 sum)[1]?=some (g1,sum % D.b.length):=by unfold Dc.slots;rw [if_neg hb];rfl
    obtain rfl:=HA.out hb;have hbs:=Zm (ok.b hb);rw [Ma sum (ok.b hb)] at HI1;have hlt1:sum % D.b.length<D.b.length:=Nat.mod_lt _ (by omega);have hlt1':((sum % D.b.length:Nat):Int)<D.b.length:=by omega
    have HN:=jY hln;have HS1:=jY hs1;clear hb hln hs1 hlt0 hlt0';generalize sum % D.b.length=j1 at *;have HRd:=jY (HY.out 1 _ · HS1.out)
    gi_wp2_with fail
    refine ⟨trivial,?_⟩;refine callsIn_wide.2 (Calls.mono (HI1 _) ?_);rintro e w2 ⟨rfl,hb2⟩;obtain ⟨fn,tmps,assign,body,hy,hRd⟩:=HRd.out w2 (hJ _ _ _ hJi hb2);unfold Ig at hy;have q1:=Q1.out.later hb2;have q2:=Q2.out.later hb2;have P1:=jY q1;have P2:=jY q2;clear q1 q2
    gi_wp2_with fail
    (try refine ⟨fun _=>by decide,?_⟩)
    refine hRd.mono ?_;rintro e W3 (⟨rfl,hJ3,hk3⟩|⟨rfl,hJx3⟩)
    ·have q1:=P1.out.keep hk3 hL1;have q2:=P2.out.keep hk3 hL2;clear hRd hy;gi_wp2;refine ⟨⟨2,rfl,by omega,q1,q2,.inr (.inr ⟨rfl,by rw [HN.out];exact hJ3⟩)⟩,?_⟩;simp [intOf]
    ·gi_wp2;go_returns;exact ⟨⟨_,rfl⟩,.inr ⟨_,hJx3⟩⟩
  ·gi_wp2
   go_end0
   exact ⟨⟨_,rfl⟩,.inl hJi⟩
end
end Go.Proofs.YtmehfohpjigmmaaGreatDoor.Dc
namespace Go.Proofs.YtmehfohpjigmmaaGreatDoor.Dc
open Zc
open Go Go.RowKit
section
variable {P:Program} {ops:Array Oper} {md:Region.Mode} {C:World->Prop} {n l:Nat}
def Up(ops:Array Oper):Bool:=ops.all fun o=>match o.op with|.defer _=>false|_=>true
theorem O3{ops:Array Oper}(h:Up ops=true){i:Nat}{o:Oper}(ho:ops[i]?=some o)(c:Call):o.op≠.defer c:=fun e=>by
 have:=Array.all_eq_true'.1 h o (Array.mem_of_getElem? ho)
 simp [e] at this
theorem Iq{o:Oper}(hd:∀ c,o.op≠.defer c){a:Act}{K:Act->Prop}{K':Act->World->Prop}{Q':Exit->Act->World->Prop}{w:World}(hw:C w)(h:∀ a w',C w'->K a->K' a w')(hh:o.quiet P a C K) :
 o.wpIn (Fence.wide.inRound l) n P a w K' Q':=by
 obtain ⟨v,h1,h2⟩:=hh;have h3:=h1 w hw;unfold Oper.quietAt at h3;refine ⟨fun _ _=>trivial,?_⟩;rw [Oper.semAt_eq _ _ _ hd];generalize (execOp a.eval o).run P w=r at *
 cases r with
 | ok n w' =>
   cases n <;> simp only [Oper.quietUpon] at h3
   case value u =>
    obtain ⟨e1,e2⟩:=h3;rw [e1,e2,Oper.uponIn_value];exact h _ _ hw h2
   case skip =>
    obtain ⟨e1,e2⟩:=h3;rw [e1,Oper.uponIn_skip,<- e2];exact h _ _ hw h2
   case enter f args =>
    obtain ⟨e1,hc⟩:=h3;rw [e1,Oper.uponIn_enter];refine ⟨fun h=>by simp [Fence.wide] at h,(CallsIn.inRound l (callsIn_wide.2 hc)).mono ?_⟩;rintro e w'' ⟨he,hw''⟩;subst he;exact h _ _ hw'' h2
 | halt x w'=>simp only [Oper.quietUpon] at h3
theorem Ir(hp:Up ops=true){i:Nat}{a:Act}{K:Act->Prop}{K':Act->World->Prop}{Q':Exit->Act->World->Prop}{w:World}(hC:C w)(h:∀ a w',C w'->K a->K' a w')(hh:qOp P ops C i K a) :
 wpOpIn (Fence.wide.inRound l) n P ops Q' i K' a w:=by
 unfold qOp at hh;unfold wpOpIn
 split
 ·rename_i ho;simp only [ho] at hh;exact h _ _ hC hh
 ·rename_i o ho;simp only [ho] at hh
  split
  ·rename_i hw;simp only [hw,if_true] at hh;exact Iq (O3 hp ho) hC h hh
  ·rename_i hw;simp only [hw] at hh;exact ⟨fun _ _=>trivial,h _ _ hC hh⟩
theorem Ue(hp:Up ops=true){Q:Act->Prop}{Q':Exit->Act->World->Prop}(hQ:∀ a w,C w->Q a->Q' .normal a w):∀ (fuel:Nat) (listed:Array Bool) (a:Act) (w:World),C w ->
 wpAnyQ P md ops C Q fuel listed a->wpAnyIn (Fence.wide.inRound l) n P md ops Q' fuel listed a w
 | 0,_,_,_,hw,h=>⟨h.1,hQ _ _ hw h.2⟩
 | fuel+1,_,_,_,hw,h=>⟨fun h0=>hQ _ _ hw (h.1 h0),fun i hi=>Ir hp hw (fun a' w' hw'=>Ue hp hQ fuel _ a' w' hw') (h.2 i hi)⟩
theorem Yn{id:Nat}{Q:Exit->Act->World->Prop}{a:Act}{w:World}{ol:List Oper}(hm:P.follows .mixedOrders=true)(hB:Region.lexB .any ol.toArray=true)(hp:Up ol.toArray=true)
 (h:wpQuiet P ol.toArray (fun w'=>∃ n,w'=w.drewN n) (fun a'=>∀ w',(∃ n,w'=w.drewN n)->Q .normal a' w') ol a):(Code.region id ol.toArray true).wpIn (Fence.wide.inRound l) n P Q a w:=by
 simp only [Region.lexB,Bool.and_eq_true] at hB;refine wpIn_region_any hm (Ue (C:=fun w'=>∃ n,w'=w.drewN n) hp (Q:=fun a'=>∀ w',(∃ n,w'=w.drewN n)->Q .normal a' w') (fun _ w' hw' h=>h w' hw') _ _ _ _ ⟨1,rfl⟩ ?_)
 have:=wpAnyQ_lex (C:=fun w'=>∃ n,w'=w.drewN n) (md:=.any) hB.1 ol 0 (Array.replicate ol.toArray.size false) a (by simp) (by simpa using hB.2) h
 simpa using this
end
end Go.Proofs.YtmehfohpjigmmaaGreatDoor.Dc
namespace Go.Proofs.YtmehfohpjigmmaaGreatDoor.Dc
open Zc
open Go.RowKit Go.Shelf
attribute [local go_sem] Oper.semAt_some
def Nd.is(s:Nat)(k:ByteArray)(x:Nd):Bool:=x.sum==s&&decide (x.key=k)
def Dc.rowsOf(D:Dc)(s:Nat):List (List Nd):=D.a.getD (s % D.a.length) [] :: if D.b=[] then [] else [D.b.getD (s % D.b.length) []]
def z1z(D:Dc)(s:Nat)(k:ByteArray)(n:Nat):Prop:=∀ j r,j<n->(D.rowsOf s)[j]?=some r->∀ x∈r,Nd.is s k x=false
def Hit(D:Dc)(s:Nat)(k:ByteArray)(j i:Nat):Prop:=∃ r x,(D.rowsOf s)[j]?=some r/\r[i]?=some x/\Nd.is s k x=true/\(∀ q y,q<i->r[q]?=some y->Nd.is s k y=false)/\z1z D s k j
section
variable {S:Nat->Prop} {p seed:Nat} {D:Dc} {w:World}
theorem Uz{T:Ty}{W:World}{g0 g1:Nat}{A1:Option Addr}{va vb:List Value}(h:Mem T W p g0 g1 A1 va vb seed D)(ok:D.Ok T)(s j:Nat)(x:Nat × Nat)(hx:(D.slots g0 g1 s)[j]?=some x) :
 ∃ v r,(D.rowsOf s)[j]?=some r/\W.cell? ⟨x.1,x.2,none⟩=some v/\W.frozen? ⟨x.1,x.2,none⟩=false/\RowAt T W v r:=by
 have hal:=Zm ok.a
 have key:∀ (g:Nat) (vs:List Value) (rows:List (List Nd)),TabAt T W g vs rows->isS (rows.length:Int)=true->∃ v,W.cell? ⟨g,s % rows.length,none⟩=some v/\W.frozen? ⟨g,s % rows.length,none⟩=false/\RowAt T W v (rows.getD (s % rows.length) []):=fun g vs rows hT hz=>by
  have:=Zm hz
  have hlt:s % rows.length<rows.length:=Nat.mod_lt _ (by omega);have hlv:s % rows.length<vs.length:=by rw [hT.len];exact hlt
  refine ⟨vs[s % rows.length],?_,hT.blk.free _,?_⟩
  ·rw [hT.blk.cell];simp [hlv]
  ·rw [List.getD_eq_getElem?_getD,List.getElem?_eq_getElem hlt];exact hT.row _ _ _ (List.getElem?_eq_getElem hlv) (List.getElem?_eq_getElem hlt)
 unfold Dc.slots at hx
 match j,hx with
 | 0,hx =>
   simp at hx;subst hx;obtain ⟨v,h1,h2,h3⟩:=key g0 va D.a h.ta ok.a;exact ⟨v,_,rfl,h1,h2,h3⟩
 | 1,hx =>
   by_cases hb:D.b=[]
   ·rw [if_pos hb] at hx;simp at hx
   ·rw [if_neg hb] at hx;simp at hx;subst hx;rcases h.tb with ⟨h1,_⟩|⟨_,_,_,htb⟩
    ·exact absurd h1 hb
    ·obtain ⟨v,h1,h2,h3⟩:=key g1 vb D.b htb (ok.b hb);exact ⟨v,_,by unfold Dc.rowsOf;rw [if_neg hb];rfl,h1,h2,h3⟩
 | j+2,hx =>
   by_cases hb:D.b=[]
   ·rw [if_pos hb] at hx;simp at hx
   ·rw [if_neg hb] at hx;simp at hx
theorem Gs(g0 g1 s:Nat):(D.slots g0 g1 s).length=(D.rowsOf s).length:=by
 unfold Dc.slots Dc.rowsOf
 split <;> rfl
theorem X5(s j:Nat)(r:List Nd)(h:(D.rowsOf s)[j]?=some r):r.length<=D.a.flatten.length+D.b.flatten.length:=by
 have key:∀ (rows:List (List Nd)) i,(rows.getD i []).length<=rows.flatten.length:=fun rows i=>by
  rw [List.getD_eq_getElem?_getD]
  cases hg:rows[i]? with
  | none=>simp
  | some r0=>exact Jw rows r0 (List.mem_of_getElem? hg)
 have k0:=key D.a (s % D.a.length);have k1:=key D.b (s % D.b.length);unfold Dc.rowsOf at h;have hm:=List.mem_of_getElem? h;rcases List.mem_cons.1 hm with rfl|h1
 ·omega
 ·by_cases hb:D.b=[]
  ·rw [if_pos hb] at h1;simp at h1
  ·rw [if_neg hb,List.mem_singleton] at h1;subst h1;omega
theorem Xw{a b:ByteArray}(h:a.toList=b.toList):a=b:=by
 rw [ByteArray.toList_eq,ByteArray.toList_eq] at h;exact ByteArray.ext (Array.toList_inj.1 h)
theorem P5(x:Nd)(s:Nat)(key:ByteArray)(b:Bool)(h:Nd.is s key x=b)(W:World) :
 (binOp .eql 145 (.agg #[.int .u32 x.sum,.string x.key]) (.agg #[.int .u32 s,.string key])).run Tryz.prog W=.ok (.bool b) W:=by
 unfold Nd.is at h
 by_cases h1:x.sum=s
 ·by_cases h2:x.key=key
  ·rw [h1,h2] at h;simp at h;subst h;rw [h1,h2];simp [go_sem]
  ·have h3:¬ x.key.toList=key.toList:=fun e=>h2 (Xw e);simp [h1,h2] at h;subst h;rw [h1];simp [go_sem,h3]
 ·have h4:(x.sum==s)=false:=by rw [beq_eq_false_iff_ne];exact h1
  rw [h4,Bool.false_and] at h;subst h;simp [go_sem];intro h;omega
theorem Zn{B:Nat}(W:World)(n:Nat):Below B W (W.drewN n):=⟨rfl,rfl,rfl,Nat.le_refl _,fun _ _=>rfl⟩
theorem Xs{W W':World}(hb:Bl W W'){a:Addr}{v:Value}(h:W.cell? a=some v):W'.cell? a=some v:=(hb.cell (World.block_lt_of_cell? W a h)).trans h
theorem Vi{T:Ty}(ok:D.Ok T)(n:Nat):(D.step n).Ok T/\(D.step n).n=D.n:=by
 have:=Vj ok (min n D.left) (Nat.min_le_right _ _)
 exact ⟨this.1,this.2.2.1⟩
theorem Bc{r:List Nd}{s:Nat}{k:ByteArray}(h:∀ x∈r,Nd.is s k x=false)(q:Nat)(y:Nd)(hy:r[q]?=some y):Nd.is s k y=false:=h y (List.mem_of_getElem? hy)
structure Does (w:World) (S:Nat->Prop) (p seed:Nat) (D1:Dc) (s:Nat) (j i K:Nat) (caps:Array Value) (Post:World->Prop):Prop where
 enter:∀ args W,(callFunc K args).run Tryz.prog W=.ok (.enter K args) W
 own:OwnFrom w.heap.size (fun (_:Unit) W=>Post W)
 set:∀ W b v c,w.heap.size<=b->Blk W b 4 c->Post W->Post (W.setCell ⟨b,0,none⟩ v)
 call:∀ W g0 g1 A1 va vb x,Mem tyI W p g0 g1 A1 va vb seed D1->Foot (Xe tyI S w W) p g0 g1 va vb D1->Far S w W->(D1.slots g0 g1 s)[j]?=some x ->
  Calls Tryz.prog K (#[.pointer (some ⟨x.1,x.2,none⟩),.int .i64 i]++caps) W fun e W'=>e=.returned (.tuple #[])/\KeepsFrom w.heap.size W W'/\(∀ b c,Blk W b 4 c->Blk W' b 4 c)/\Post W'
theorem Yd(hsd:seed<4294967296)(h:Rep tyI w p S seed D)(ok:D.Ok tyI)(hn:D.n<=1000000)(key:ByteArray)(hk:key.size<=281474976710656)(K:Nat)(caps:Array Value)
 (hit:Option (Nat × Nat)) (hh:∀ j i,hit=some (j,i)->Hit (D.step 1) (Zi seed key.data.toList) key j i) (hh0:hit=none->z1z (D.step 1) (Zi seed key.data.toList) key 2)
 (Post:World->Prop) (hdo:∀ j i,hit=some (j,i)->Does w S p seed (D.step 1) (Zi seed key.data.toList) j i K caps Post) :
 Calls Tryz.prog 174 #[.pointer (some ⟨p,0,none⟩),.string key,.func (.func K) #[] caps] w fun e w' =>
  e=.returned (.bool hit.isSome)/\(hit=none->Went tyI S w p seed (D.step 1) w')/\(hit.isSome=true->Post w'):=by
 refine (callsIn_wide (n:=6)).1 (callsIn_of_wp_marks Tryz.func174 rfl trivial ?_ rfl);refine wpIn_wide.2 ?_;simp only [Tryz.ntmps174,List.size_toArray,List.length_cons,List.length_nil,Nat.reduceAdd,Nat.reduceSub,Array.replicate_succ,Array.replicate_zero,List.push_toArray,List.append_toArray,List.nil_append,List.cons_append];have hbx:Bl w (w.alloc (Obj.cells #[.func (.func K) #[] caps] 290)):=(Below.refl _ _).alloc (Nat.le_refl _) _;have kb0:=Blk.new w 290 #[.func (.func K) #[] caps];have hst:=I5 (h.later hbx) ok hn 1;rw [show Int.toNat 1=1 from rfl] at hst;obtain ⟨ok1,hn1⟩:=Vi ok 1;have hsl:=Mc seed key.data.toList;have HST:=jY hst;have HH:=jY hh;have HH0:=jY hh0;have HDO:=jY hdo;have HB0:=jY kb0;have HR:=jY h.cells;clear hst hh hh0 hdo kb0;obtain ⟨s,hse⟩:∃ s,Zi seed key.data.toList=s:=⟨_,rfl⟩;have HSE:=jY hse;rw [hse] at HH HH0 HDO hsl;clear hse;go_wp2_with fail;refine wp_scope_straight ?_;go_wp2_with fail;refine HST.out.mono ?_;rintro e w1 ⟨rfl,hw1⟩;have hnm:=X6 hsd hw1.1 key hk;rw [HSE.out] at hnm;have kb1:=hw1.blk HB0.out (fun k hk=>(HR.out k hk).same (hbx.block k (HR.out k hk).lt)) (by decide);have hw1':=Went.since hbx hw1;have HNM:=jY hnm;have HW1:=jY hw1';have HB1:=jY kb1;generalize min 1 D.left=mm at *;clear hnm hw1 kb1 hw1';go_wp2_with fail;refine HNM.out.mono ?_;rintro e w2 ⟨rfl,hb2⟩;have HB2:=jY hb2;clear hb2;go_wp2_with fail;refine wp_label ?_;go_wp2_with fail;refine (My s _).mono ?_;rintro e w3 ⟨rfl,rfl⟩;go_wp2;have z1:=HW1.out.2.size;have z2:=HB2.out.size;have kW:=(((Blk.new w2 145 #[Value.int IntKind.u32 ↑s,Value.string key]).alloc (Obj.cells #[Value.bool false] 4)).alloc (Obj.cells #[Value.pointer (some ⟨p,0,none⟩)] 234)).alloc (Obj.cells #[Value.int IntKind.u32 ↑s] 24);have kF:=((Blk.new (w2.alloc (Obj.cells #[Value.int IntKind.u32 ↑s,Value.string key] 145)) 4 #[Value.bool false]).alloc (Obj.cells #[Value.pointer (some ⟨p,0,none⟩)] 234)).alloc (Obj.cells #[Value.int IntKind.u32 ↑s] 24);have kP:=(Blk.new ((w2.alloc (Obj.cells #[Value.int IntKind.u32 ↑s,Value.string key] 145)).alloc (Obj.cells #[Value.bool false] 4)) 234 #[Value.pointer (some ⟨p,0,none⟩)]).alloc (Obj.cells #[Value.int IntKind.u32 ↑s] 24);have kS:=Blk.new (((w2.alloc (Obj.cells #[Value.int IntKind.u32 ↑s,Value.string key] 145)).alloc (Obj.cells #[Value.bool false] 4)).alloc (Obj.cells #[Value.pointer (some ⟨p,0,none⟩)] 234)) 24 #[Value.int IntKind.u32 ↑s]
 have hb4:Bl w2 ((((w2.alloc (Obj.cells #[Value.int IntKind.u32 ↑s,Value.string key] 145)).alloc (Obj.cells #[Value.bool false] 4)).alloc (Obj.cells #[Value.pointer (some ⟨p,0,none⟩)] 234)).alloc (Obj.cells #[Value.int IntKind.u32 ↑s] 24)) :=
  ((((Below.refl _ _).alloc (Nat.le_refl _) _).alloc (by simp) _).alloc (by simp;omega) _).alloc (by simp;omega) _
 have hz4:((((w2.alloc (Obj.cells #[Value.int IntKind.u32 ↑s,Value.string key] 145)).alloc (Obj.cells #[Value.bool false] 4)).alloc (Obj.cells #[Value.pointer (some ⟨p,0,none⟩)] 234)).alloc (Obj.cells #[Value.int IntKind.u32 ↑s] 24)).heap.size=w2.heap.size+4:=by simp
 simp only [World.size_alloc] at kF kP kS;generalize ((((w2.alloc (Obj.cells #[Value.int IntKind.u32 ↑s,Value.string key] 145)).alloc (Obj.cells #[Value.bool false] 4)).alloc (Obj.cells #[Value.pointer (some ⟨p,0,none⟩)] 234)).alloc (Obj.cells #[Value.int IntKind.u32 ↑s] 24))=w4 at *;have k0:=(HB1.out.later HB2.out).later hb4;have hw4:=(HW1.out.later HB2.out).later hb4;have HW4:=jY hw4;obtain ⟨g0,g1,A1,va,vb,hm4,hf4,hc4⟩:=hw4.1;have HM4:=jY hm4;have HF4:=jY hf4;have hslots:=Ob hm4 ok1 s hsl _ _ kP kS [] (by simp) (by simp);clear hm4 hf4 hc4 hw4
 refine (wpIn_wide (n:=6)).1 (Xi (gf:=211) (encs:=Ig) (xs:=(D.step 1).slots g0 g1 s) (L:=[]) rfl (enters_of Tryz.func211 (by kernel_rfl) rfl) hslots (fun _ _=>rfl)
  (fun i W=>Bl w4 W/\∀ j' i',hit=some (j',i')->i<=j')
  (fun c _ W=>match c with
    | .exit id=>id=0/\hit.isSome=true/\Post W/\Blk W (w2.heap.size+1) 4 #[.bool true]
    | _=>False)
  ?hI ?hIx ?h0 (fun i x a' W=>a'={ tmps:=#[Value.pointer (some ⟨p,0,none⟩),Value.string key,Value.func (Fn.func K) #[] caps,undef,
   undef,Value.pointer (some { block:=w.heap.size,off:=0 }),Value.bool false,
   Value.pointer (some { block:=w2.heap.size,off:=0 }),
   Value.pointer (some { block:=w2.heap.size+1,off:=0 }),Value.pointer (some ⟨x.1,x.2,none⟩),undef,
   Value.pointer (some { block:=p,off:=0 }),Value.int IntKind.i64 ↑mm,
   Value.pointer (some { block:=p,off:=0 }),Value.string key,
   Value.agg #[Value.int IntKind.u32 ↑s,Value.string key],Value.pointer (some { block:=p,off:=0 }),
   Value.pointer (some { block:=w2.heap.size,off:=0 }),Value.int IntKind.u32 ↑s,
   Value.func (Fn.func 211) #[]
    #[Value.pointer (some { block:=w2.heap.size+1+1,off:=0 }),
      Value.pointer (some { block:=w2.heap.size+1+1+1,off:=0 })],
   Value.pointer (some ⟨x.1,x.2,none⟩),undef,undef,undef,undef,undef,undef,undef,undef,undef,undef,undef,undef,undef,undef,
   undef,undef,undef,undef,undef,undef,undef,undef],defers:=[] })
  (fun _ _ _=>Z0 _ _) ?assign ?body ?done ?stop)
 case hI=>exact (Z6 _ w4 (Nat.le_refl _)).and (Z0 _ _)
 case hIx =>
  intro c
  cases c with
  | exit id =>
    cases hh:hit with
    | none=>exact (Z0 _ _).and (fun _ _ _ _ h=>by simp at h)
    | some ji =>
      have:=(HDO.out ji.1 ji.2 (by rw [hh])).own
      exact (Z0 _ _).and ((Z0 _ _).and (OwnFrom.and (fun _ X Y row h1 h2 h3=>this () X Y row h1 h2 (fun k hk=>⟨by have:=(h3 k hk).1;omega,(h3 k hk).2⟩)) (Zb _ _ _ _)))
  | _=>exact Z0 _ _
 case h0=>exact ⟨Below.refl _ _,fun _ _ _=>Nat.zero_le _⟩
 case assign =>
  rintro l i x W K' hx' ⟨hb,hq⟩ hK;unfold Ig;gi_wp2;exact hK _ _ (KeepsFrom.refl _ _) (KeepC.refl _ _) ⟨hb,hq⟩ rfl
 case body =>
  rintro l i x a' W hx' ⟨hb,hq⟩ rfl;obtain ⟨vv,r,hr,c0,d0,hR⟩:=Uz (HM4.out.later hb) ok1 s i x hx';obtain ⟨A,cap,rfl,hcap,hmax,hat⟩:=hR.form;have q0:=k0.later hb;have qW:=kW.later hb;have qF:=kF.later hb;obtain ⟨e0,e1⟩:=Z4 q0;have y0:=qW.cell 0;have y1:=qW.cell 1;obtain ⟨e2,e3⟩:=Z4 qF
  by_cases hhit:∃ i',hit=some (i,i')
  ·obtain ⟨m,rfl⟩:=hhit;obtain ⟨r',y0',h1,h2,h3,h4,_⟩:=HH.out i m rfl;rw [hr] at h1
   cases h1
   have hD:=HDO.out i m rfl;have henter:=hD.enter;have HDD:=jY hD;have H2:=jY h2;have H3:=jY h3;have H4:=jY h4;have HAT:=jY hat;have HX:=jY hx';have hml:m<r.length:=(List.getElem?_eq_some_iff.1 h2).1
   have hrl:(r.length:Int)<=1000000:=by
    have h1:=X5 s i r hr;have h2:=ok1.n;omega
   have Q0:=jY q0;have QF:=jY qF;clear hD h2 h3 h4 hat hR hq hx' hr q0 qW qF k0 kW kF kP kS hslots hmax hcap;gi_wp2
   gi_loopw [25] (fun a wr=>∃ (k:Nat),a=.int .i64 k/\k<=m/\Bl W wr) (fun a _=>r.length-(intOf a).toNat)
   case atStart=>exact ⟨0,rfl,by omega,Below.refl _ _⟩
   case round =>
    obtain ⟨k,rfl,hk,hbr⟩:=hrel;have hlt:k<r.length:=by omega
    have hy:r[k]?=some r[k]:=List.getElem?_eq_getElem hlt;obtain ⟨g,hA,hob,n0,n1,n2,fz⟩:=HAT.out k _ hy;subst hA;have hmx:Tryz.prog.follows Departure.mixedOrders=true:=by kernel_rfl
    have c0':=Xs hbr c0;have n0':=Xs hbr n0;have n1':=Xs hbr n1;have y0':=Xs hbr y0;have y1':=Xs hbr y1;have e0':=Xs hbr e0;have hzW:=hb.size;have hzr:=hbr.size
    by_cases hkm:k=m
    ·subst hkm
     have hne:Nd.is s key r[k]=true:=by
      have:=H2.out
      rw [hy] at this
      cases this
      exact H3.out
     generalize r[k]=y at *;clear hy fz e0 e1 e2 e3 d0 n0 n1 n2 y0 y1 c0;obtain ⟨ys,yk,yv⟩:=y;simp only at n0' n1';have heq:=P5 ⟨ys,yk,yv⟩ s key true hne;simp only at heq;clear hne hk;have hbD:Bl w4 wr:=hb.trans (hbr.mono hb.size);gi_wp2;refine Yn (by kernel_rfl) (by kernel_rfl) (by kernel_rfl) ?_
     repeat (quiet_step (fail))
     refine wpQuiet_nil ?_;intro _ hw';obtain ⟨nq,hw''⟩:=hw';subst hw'';have hbN:Bl w4 (wr.drewN nq):=hbD.trans (Zn _ nq);have HWN:=jY (HW4.out.later hbN)
     have hcall:=HDD.out.call (wr.drewN nq) g0 g1 A1 va vb x (HM4.out.later hbN) (by
      have h1:=HF4.out;have h2:=HW4.out.later hbN
      exact ⟨⟨h1.p.1,h1.p.2.same (hbN.block _ h1.p.2.lt)⟩,⟨h1.g0.1,h1.g0.2.same (hbN.block _ h1.g0.2.lt)⟩,fun h=>⟨(h1.g1 h).1,(h1.g1 h).2.same (hbN.block _ (h1.g1 h).2.lt)⟩,fun v hv k hk=>⟨(h1.row v hv k hk).1,(h1.row v hv k hk).2.same (hbN.block _ (h1.row v hv k hk).2.lt)⟩⟩) HWN.out.2 HX.out
     have HCALL:=jY hcall;have hqF:=(QF.out.later hbr).later (Zn (wr) nq);have HQF:=jY hqF;have hzd:(wr.drewN nq).heap.size=wr.heap.size:=rfl;clear hcall hqF
     gi_wp2_with fail
     refine ⟨trivial,?_⟩;refine (CallsIn.inRound l (callsIn_wide.2 HCALL.out)).mono ?_;rintro e W5 ⟨rfl,hkf5,hk4,hP5⟩;have q5:=hk4 _ _ HQF.out;obtain ⟨a5,b5⟩:=Z4 q5;have HK5:=jY hkf5;have HP5:=jY hP5;have HQ5:=jY q5;clear hkf5 hk4 hP5 q5;gi_wp2;refine ⟨?_,rfl,rfl,HDD.out.set _ _ _ _ (by omega) HQ5.out HP5.out,HQ5.out.set 0 _⟩
     exact ⟨Nat.le_trans hzr (Nat.le_trans HK5.out.size (by simp [World.setCell])),fun k' o hk' ho hc=>by
      have h1:=hbr.block k' (Array.getElem?_eq_some_iff.1 ho).1
      exact (KeepsOthers.setCell W5 ⟨w2.heap.size+1,0,none⟩ (.bool true)).same k' o (HK5.out.same k' o (by omega) (h1.trans ho) hc) hc⟩
    ·have hne:Nd.is s key r[k]=false:=H4.out k _ (by omega) hy;generalize r[k]=y at *;clear hy fz e0 e1 e2 e3 d0 n0 n1 n2 y0 y1 c0;obtain ⟨ys,yk,yv⟩:=y;simp only at n0' n1';have heq:=P5 ⟨ys,yk,yv⟩ s key false hne;simp only at heq;clear hne;gi_wp2;refine Yn (by kernel_rfl) (by kernel_rfl) (by kernel_rfl) ?_
     repeat (quiet_step (fail))
     refine wpQuiet_nil ?_;intro _ hw';obtain ⟨nq,hw''⟩:=hw';subst hw'';gi_wp2;exact ⟨⟨k+1,by go_num,by omega,hbr.trans (Zn _ nq)⟩,by simp [intOf];omega⟩
  ·have hrow:∀ y∈r,Nd.is s key y=false:=by
    cases hh:hit with
    | none=>exact HH0.out hh i r (by
       have:=(List.getElem?_eq_some_iff.1 hr).1
       have h2:((D.step 1).rowsOf s).length<=2:=by unfold Dc.rowsOf;split <;> simp
       omega) hr
    | some ji =>
      obtain ⟨r',x',_,_,_,_,h5⟩:=HH.out ji.1 ji.2 hh;have h1:=hq ji.1 ji.2 hh;have h2:i≠ji.1:=fun e=>hhit ⟨ji.2,by rw [hh,e]⟩;exact h5 i r (by omega) hr
   have HROW:=jY hrow;have HAT:=jY hat;have HR':=jY hR;have HQ:=jY hq;have HX:=jY hx';have HHIT:=jY hhit
   have hrl:(r.length:Int)<=1000000:=by
    have h1:=X5 s i r hr;have h2:=ok1.n;omega
   clear hrow hat hR hq hx' hhit hr q0 qW qF k0 kW kF kP kS hslots hmax hcap;gi_wp2
   gi_loopw [25] (fun a wr=>∃ (k:Nat),a=.int .i64 k/\k<=r.length/\Bl W wr) (fun a _=>r.length-(intOf a).toNat)
   case atStart=>exact ⟨0,rfl,by omega,Below.refl _ _⟩
   case round =>
    obtain ⟨k,rfl,hk,hbr⟩:=hrel
    by_cases hlt:k<r.length
    ·have hy:r[k]?=some r[k]:=List.getElem?_eq_getElem hlt;obtain ⟨g,hA,hob,n0,n1,n2,fz⟩:=HAT.out k _ hy;subst hA;have hne:=Bc HROW.out k _ hy;generalize r[k]=y at *;have c0':=Xs hbr c0;have n0':=Xs hbr n0;have n1':=Xs hbr n1;have y0':=Xs hbr y0;have y1':=Xs hbr y1;clear hy fz e0 e1 e2 e3 d0 n0 n1 n2 y0 y1 c0;have hmx:Tryz.prog.follows Departure.mixedOrders=true:=by kernel_rfl
     obtain ⟨ys,yk,yv⟩:=y;simp only at n0' n1';have heq:=P5 ⟨ys,yk,yv⟩ s key false hne;simp only at heq;clear hne;gi_wp2;refine Yn (by kernel_rfl) (by kernel_rfl) (by kernel_rfl) ?_
     repeat (quiet_step (fail))
     refine wpQuiet_nil ?_;intro _ hw';obtain ⟨nq,hw''⟩:=hw';subst hw'';gi_wp2;exact ⟨⟨k+1,by go_num,hlt,hbr.trans (Zn _ nq)⟩,by simp [intOf];omega⟩
    ·obtain rfl:k=r.length:=by omega
     gi_wp2;refine ⟨(Far.of_below (S:=fun _=>False) hbr).keeps (T:=tyI) (fun _ h=>h.elim) _,KeepC.of_below hbr,hb.trans (hbr.mono hb.size),fun j' i' hh=>?_⟩;have h1:=HQ.out j' i' hh;have h2:i≠j':=fun e=>HHIT.out ⟨i',by rw [hh,e]⟩;omega
 case done =>
  rintro Dd W hD ⟨hb,hq⟩ hK
  have hn:hit=none:=by
   cases hh:hit with
   | none=>rfl
   | some ji =>
     obtain ⟨r,x,h1,_⟩:=HH.out ji.1 ji.2 hh;have h2:=hq ji.1 ji.2 hh;have h3:=(List.getElem?_eq_some_iff.1 h1).1;rw [Gs] at h2;omega
  subst hn;have q:=kF.later hb;obtain ⟨e0,e1⟩:=Z4 q;have HK:=jY hK;have HWW:=jY (HW4.out.later hb);clear hK q k0 kW kF kP kS;simp only [Exit.inBlock,Exit.then];go_wp2;refine Zp (v:=.bool false) rfl HK.out (by simp [results,Tryz.results174,go_sem]) ⟨rfl,?_⟩;exact (Yv (β:=Unit) w.heap.size (Nat.le_refl _) p seed (fun _=>_)).putObj (s:=()) _ HWW.out (by omega) HK.out rfl
 case stop =>
  rintro Dd c j W hD hI hK
  cases c with
  | exit id =>
    obtain ⟨rfl,hs,hP,q3⟩:=hI;obtain ⟨c3,d3⟩:=Z4 q3;have HK:=jY hK;have HP:=jY hP;have HS:=jY hs;clear hK hP q3 k0 kW kF kP kS hs;refine wpIn_wide.2 ?_;go_wp2;refine Zp (v:=.bool true) rfl HK.out (by simp [results,Tryz.results174,go_sem]) ⟨by rw [HS.out],fun h=>?_,fun _=>?_⟩
    ·have:=HS.out;rw [h] at this;cases this
    ·obtain ⟨ji,hji⟩:=Option.isSome_iff_exists.1 HS.out;exact ((HDO.out ji.1 ji.2 hji).own).putObj (s:=()) _ HP.out (by omega) HK.out rfl
  | _=>exact hI.elim
end
theorem Uv{S:Nat->Prop}(b:Nat)(hb:S b):∀ (vs:List Value) (o:Nat) (w:World),Far S w (w.setCells b o vs)
 | [],_,w=>Far.refl _ _
 | v :: vs,o,w=>by
   rw [World.setCells];exact ((Far.refl S w).set ⟨b,o,none⟩ v (.inl hb)).trans (Uv b hb vs (o+1) _) fun k hk=>.inl hk
theorem Uu(b:Nat)(t:TypeId):∀ (vs:List Value) (o:Nat) (w:World) (c:Array Value),Blk w b t c->∃ c',Blk (w.setCells b o vs) b t c'/\c'.size=c.size/\∀ j,j<o->c'[j]?=c[j]?
 | [],_,w,c,h=>⟨c,h,rfl,fun _ _=>rfl⟩
 | v :: vs,o,w,c,h=>by
   rw [World.setCells];obtain ⟨c',h1,h2,h3⟩:=Uu b t vs (o+1) _ _ (h.set o v);refine ⟨c',h1,by rw [h2];simp,fun j hj=>?_⟩;rw [h3 j (by omega),Array.getElem?_setIfInBounds];rw [if_neg (by omega)]
theorem RowAt.tail{T:Ty}{W:World}{g cap:Nat}{r:List Nd}(h:RowAt T W (.slice (some ⟨g,0,none⟩) r.length cap) r)(vs:List Value)(o:Nat)(ho:r.length*3<=o):RowAt T (W.setCells g o vs) (.slice (some ⟨g,0,none⟩) r.length cap) r:=by
 rcases h.2 with ⟨h',_⟩|⟨g',cap',cur,h',hb,hg,hnc,hcm,hcs,htake⟩
 ·simp at h'
 ·simp only [Value.slice.injEq,Option.some.injEq,Addr.mk.injEq,and_true,true_and] at h';obtain ⟨rfl,rfl⟩:=h';obtain ⟨c',h1,h2,h3⟩:=Uu g T.r vs o W cur hg;refine ⟨h.1,.inr ⟨g,cap,c',rfl,hb,h1,hnc,hcm,by rw [h2];exact hcs,?_⟩⟩;rw [<- htake]
  apply List.ext_getElem?
  intro j
  by_cases hj:j<r.length*3
  ·rw [List.getElem?_take,List.getElem?_take,if_pos hj,if_pos hj,Array.getElem?_toList,Array.getElem?_toList];exact h3 j (by omega)
  ·rw [List.getElem?_take,List.getElem?_take,if_neg hj,if_neg hj]
theorem RowAt.head{T:Ty}{W:World}{g cap:Nat}{r:List Nd}(h:RowAt T W (.slice (some ⟨g,0,none⟩) r.length cap) r)(i:Nat)(hi:i<=r.length):W.ownsRow 0 T.r 3 (.slice (some ⟨g,0,none⟩) i cap) i (Yz (r.take i)):=by
 rcases h.2 with ⟨h',_⟩|⟨g',cap',cur,h',hb,hg,hnc,hcm,hcs,htake⟩
 ·simp at h'
 ·simp only [Value.slice.injEq,Option.some.injEq,Addr.mk.injEq,and_true,true_and] at h';obtain ⟨rfl,rfl⟩:=h';have hl:(r.take i).length=i:=by rw [List.length_take];omega
  refine ⟨by rw [Ol,hl],.inr ⟨g,cap,cur,rfl,hb,hg,by omega,hcm,hcs,?_⟩⟩;have h1:Yz r=Yz (r.take i)++Yz (r.drop i):=by rw [<- V8,List.take_append_drop]
  have h2:(Yz (r.take i)).length=i*3:=by rw [Ol,hl]
  have h3:(cur.toList.take (r.length*3)).take (i*3)=cur.toList.take (i*3):=by rw [List.take_take];congr 1;omega
  rw [<- h3,htake,h1,List.take_left' h2]
def Dc.upd(D:Dc)(s j:Nat)(f:List Nd->List Nd):Dc :=
 if j=0 then { D with a:=D.a.set (s % D.a.length) (f (D.a.getD (s % D.a.length) [])) } else { D with b:=D.b.set (s % D.b.length) (f (D.b.getD (s % D.b.length) [])) }
theorem TabAt.upd{T:Ty}(hT:T.Apart){W W':World}{g k:Nat}{vs:List Value}{rows:List (List Nd)}{v v':Value}{r':List Nd}(h:TabAt T W g vs rows)(hS:Sep vs)(hv:vs[k]?=some v)(f:Far (fun b=>v.ownBlock=some b\/b=g) W W')
 (hb:Blk W' g T.t (vs.set k v').toArray) (hr:RowAt T W' v' r'):TabAt T W' g (vs.set k v') (rows.set k r'):=by
 refine ⟨hb,by rw [List.length_set,List.length_set];exact h.len,fun i u r hu hr2=>?_⟩
 by_cases e:i=k
 ·subst e;rw [List.getElem?_set_self (List.getElem?_eq_some_iff.1 hv).1] at hu;rw [List.getElem?_set_self (by have:=(List.getElem?_eq_some_iff.1 hr2).1;simpa using this)] at hr2
  cases hu;cases hr2
  exact hr
 ·rw [List.getElem?_set_ne (fun h=>e h.symm)] at hu hr2;refine (h.row i u r hu hr2).far f ?_;rintro b hb2 (h1|rfl)
  ·exact e (hS i k u v b hu hv hb2 h1)
  ·obtain ⟨c,hc⟩:=(h.row i u r hu hr2).blk hb2;exact hT.2.2 (h.blk.ty hc)
section
variable {T:Ty} {S:Nat->Prop} {p seed:Nat} {D:Dc} {w:World}
theorem Mem.upd(hT:T.Apart){W W':World}{g0 g1:Nat}{A1:Option Addr}{va vb:List Value}(h:Mem T W p g0 g1 A1 va vb seed D)(ok:D.Ok T)(s j:Nat)(x:Nat × Nat)(hx:(D.slots g0 g1 s)[j]?=some x){v v':Value}{f:List Nd->List Nd}
 (hc:W.cell? ⟨x.1,x.2,none⟩=some v) (fr:Far (fun b=>v.ownBlock=some b\/b=x.1) W W') (hown:∀ k,v'.ownBlock=some k->v.ownBlock=some k)
 (hb:∀ vs:List Value,Blk W x.1 T.t vs.toArray->vs[x.2]?=some v->Blk W' x.1 T.t (vs.set x.2 v').toArray) (hr:∀ r,(D.rowsOf s)[j]?=some r->RowAt T W' v' (f r)) :
 ∃ va' vb',Mem T W' p g0 g1 A1 va' vb' seed (D.upd s j f)/\(∀ u∈va'++vb',∀ k,u.ownBlock=some k->∃ u0∈va++vb,u0.ownBlock=some k):=by
 have hal:=Zm ok.a
 have hmem:∀ (vs:List Value) (k:Nat),vs[k]?=some v->∀ u∈vs.set k v',∀ b,u.ownBlock=some b->∃ u0∈vs,u0.ownBlock=some b:=fun vs k hv u hu b hb'=>by
  rcases List.mem_or_eq_of_mem_set hu with h1|rfl
  ·exact ⟨u,h1,hb'⟩
  ·exact ⟨v,List.mem_of_getElem? hv,hown b hb'⟩
 have hp:∀ t,t=T.t\/t=T.r->∀ c k,Blk W k t c->p≠k:=fun t ht c k hk e=>by
  subst e;rcases ht with rfl|rfl
  ·exact hT.1 (h.dict.ty hk)
  ·exact hT.2.1 (h.dict.ty hk)
 unfold Dc.slots at hx;unfold Dc.upd
 match j,hx with
 | 0,hx =>
   simp at hx;subst hx;have hlt:s % D.a.length<va.length:=by rw [h.ta.len];exact Nat.mod_lt _ (by omega)
   have hv:va[s % D.a.length]?=some v:=by
    have:=h.ta.blk.cell (s % D.a.length)
    rw [hc] at this
    simpa using this.symm
   obtain ⟨r0,_,hrow⟩:=h.ta.rows hv
   have hpn:¬ (v.ownBlock=some p\/p=g0):=by
    rintro (h1|h1)
    ·obtain ⟨c,hc⟩:=hrow.blk h1;exact hp _ (.inr rfl) _ _ hc rfl
    ·exact hp _ (.inl rfl) _ _ h.ta.blk h1
   refine ⟨va.set (s % D.a.length) v',vb,⟨?_,?_,?_,?_⟩,?_⟩
   ·have:=fr.blk h.dict hpn
    simpa using this
   ·exact h.ta.upd hT h.sep.left hv fr (hb va h.ta.blk hv) (hr _ rfl)
   ·rcases h.tb with h1|⟨h1,h2,h3,h4⟩
    ·exact .inl h1
    ·refine .inr ⟨h1,h2,h3,h4.far fr ?_⟩;rintro k (rfl|⟨u,hu,hk⟩) (h5|h5)
     ·obtain ⟨c,hc⟩:=hrow.blk h5;exact hT.2.2 (h4.blk.ty hc)
     ·exact h3 h5
     ·exact Sep.apart h.sep (List.mem_of_getElem? hv) hu h5 hk
     ·subst h5;obtain ⟨r,hr⟩:=h4.mem hu;obtain ⟨c,hc⟩:=hr.blk hk;exact hT.2.2 (h.ta.blk.ty hc)
   ·refine Sep.join (h.sep.left.set hv fun k hk=>.inl (hown k hk)) h.sep.right fun u hu u2 hu2 k hk hk2=>?_;obtain ⟨u0,h1,h2⟩:=hmem va _ hv u hu k hk;exact Sep.apart h.sep h1 hu2 h2 hk2
   ·intro u hu k hk;rcases List.mem_append.1 hu with h1|h1
    ·obtain ⟨u0,h2,h3⟩:=hmem va _ hv u h1 k hk;exact ⟨u0,List.mem_append_left _ h2,h3⟩
    ·exact ⟨u,List.mem_append_right _ h1,hk⟩
 | 1,hx =>
   by_cases hb0:D.b=[]
   ·rw [if_pos hb0] at hx;simp at hx
   rw [if_neg hb0] at hx;simp at hx;subst hx;rcases h.tb with ⟨h1,_⟩|⟨h1,h2,h3,h4⟩
   ·exact absurd h1 hb0
   have hbl:=Zm (ok.b hb0);have hlt:s % D.b.length<vb.length:=by rw [h4.len];exact Nat.mod_lt _ (by omega)
   have hv:vb[s % D.b.length]?=some v:=by
    have:=h4.blk.cell (s % D.b.length)
    rw [hc] at this
    simpa using this.symm
   obtain ⟨r0,_,hrow⟩:=h4.rows hv
   have hpn:¬ (v.ownBlock=some p\/p=g1):=by
    rintro (h5|h5)
    ·obtain ⟨c,hc⟩:=hrow.blk h5;exact hp _ (.inr rfl) _ _ hc rfl
    ·exact hp _ (.inl rfl) _ _ h4.blk h5
   have hro:(D.rowsOf s)[1]?=some (D.b.getD (s % D.b.length) []):=by unfold Dc.rowsOf;rw [if_neg hb0];rfl
   refine ⟨va,vb.set (s % D.b.length) v',⟨?_,?_,.inr ⟨?_,h2,h3,?_⟩,?_⟩,?_⟩
   ·have:=fr.blk h.dict hpn
    simpa using this
   ·refine h.ta.far fr ?_;rintro k (rfl|⟨u,hu,hk⟩) (h5|h5)
    ·obtain ⟨c,hc⟩:=hrow.blk h5;exact hT.2.2 (h.ta.blk.ty hc)
    ·exact h3 h5.symm
    ·exact Sep.apart h.sep hu (List.mem_of_getElem? hv) hk h5
    ·subst h5;obtain ⟨r,hr⟩:=h.ta.mem hu;obtain ⟨c,hc⟩:=hr.blk hk;exact hT.2.2 (h4.blk.ty hc)
   ·intro e
    have:=congrArg List.length e
    simp at this;exact hb0 this
   ·exact h4.upd hT h.sep.right hv fr (hb vb h4.blk hv) (hr _ hro)
   ·refine Sep.join h.sep.left (h.sep.right.set hv fun k hk=>.inl (hown k hk)) fun u hu u2 hu2 k hk hk2=>?_;obtain ⟨u0,h5,h6⟩:=hmem vb _ hv u2 hu2 k hk2;exact Sep.apart h.sep hu h5 hk h6
   ·intro u hu k hk;rcases List.mem_append.1 hu with h5|h5
    ·exact ⟨u,List.mem_append_left _ h5,hk⟩
    ·obtain ⟨u0,h6,h7⟩:=hmem vb _ hv u h5 k hk;exact ⟨u0,List.mem_append_right _ h6,h7⟩
 | j+2,hx =>
   by_cases hb0:D.b=[]
   ·rw [if_pos hb0] at hx;simp at hx
   ·rw [if_neg hb0] at hx;simp at hx
end
end Go.Proofs.YtmehfohpjigmmaaGreatDoor.Dc

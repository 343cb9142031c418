/- Texts of one kind in one: SnPos, SnNext, SnCurs, DcMem, DcPut, DcRep, DcGrow, DcMove. -/
import Derived.Test.YtmehfohpjigmmaaGreatDoorQSnTurn03
import Derived.Deep.AppendLies
import Derived.Deep.RegionLaw
import Derived.StillTailTactics
set_option maxRecDepth 200000
set_option maxHeartbeats 8000000
namespace Go.Proofs.YtmehfohpjigmmaaGreatDoor.Dc.Dt
open Zc
end Go.Proofs.YtmehfohpjigmmaaGreatDoor.Dc.Dt
namespace Go.Proofs.YtmehfohpjigmmaaGreatDoor.Dc.Dt
open Zc
open Go.RowKit Go.Shelf
attribute [local go_sem] Oper.semAt_some
def y5c:List Nat:=[0,1,56,2,57,49,28,3,61,58,42,50,38,29,17,4,62,47,59,36,45,43,51,22,53,39,33,30,24,18,12,5,63,55,48,27,60,41,37,16,46,35,44,21,52,32,23,11,54,26,40,15,34,20,31,10,25,14,19,9,13,8,7,6]
def y2e:Array Value:=(y5c.map fun (n:Nat)=>Value.int .u8 (n:Int)).toArray
def Env(W:World):Prop:=Blk W 2 270 y2e
theorem z4b(c:Nat)(s:Int)(hs:isS s=false)(w:World) :
 Calls Tryz.prog 119 #[.int .u32 c,.int .i64 s] w fun e w'=>e=.returned (.tuple #[.int .u32 0,.int .i64 2])/\Bl w w':=by
 have hI:=fun w=>O0 s w;rw [hs] at hI;have HI:=fun w=>jY (hI w);clear hI hs
 go_enter Tryz.func119,Tryz.ntmps119
 go_wp2_with fail
 refine wp_scope_jumps 0 (fun a' w'=>Bl w w'/\a'={ tmps:=#[Value.int IntKind.u32 c,Value.int IntKind.i64 s,undef,undef,Value.int IntKind.u32 0,
  Value.int IntKind.i64 0,Value.int IntKind.i64 s,Value.bool false,Value.bool true,undef,undef,undef,undef,undef,undef,undef,undef,undef,undef],defers:=[] }) (fun _ _=>0) rfl ?_ ?_
 ·go_wp2_with fail;refine (HI _).out.mono ?_;rintro e w1 ⟨rfl,hb1⟩;go_wp2
  go_step3
  exact ⟨rfl,hb1,rfl⟩
 ·rintro a' w' ⟨hb,rfl⟩;go_wp2;simp only [Exit.jump];go_ret2;exact ⟨rfl,hb⟩
end Go.Proofs.YtmehfohpjigmmaaGreatDoor.Dc.Dt
namespace Go.Proofs.YtmehfohpjigmmaaGreatDoor.Dc.Dt
open Zc
end Go.Proofs.YtmehfohpjigmmaaGreatDoor.Dc.Dt
namespace Go.Proofs.YtmehfohpjigmmaaGreatDoor.Dc
open Zc
open Go.RowKit Go.Shelf
structure Nd where
 sum:Nat
 key:ByteArray
 v:Value
structure Ty where
 d:TypeId
 t:TypeId
 r:TypeId
 ok:Value->Prop
def tyI:Ty:=⟨262,289,288,fun v=>∃ n,v=.int .i64 n⟩
def Nd.cells(x:Nd):List Value:=[.int .u32 x.sum,.string x.key,x.v]
def Nd.fine(T:Ty)(x:Nd):Prop:=x.sum<4294967296/\T.ok x.v
def Yz(r:List Nd):List Value:=r.flatMap Nd.cells
theorem P6(x:Nd)(r:List Nd):Yz (x :: r)=x.cells++Yz r:=rfl
theorem V8(a b:List Nd):Yz (a++b)=Yz a++Yz b:=by unfold Yz;rw [List.flatMap_append]
theorem Ol(r:List Nd):(Yz r).length=r.length*3:=by
 induction r with
 | nil=>rfl
 | cons x r ih=>rw [P6,List.length_append,ih,List.length_cons];simp [Nd.cells];omega
theorem y0o(r:List Nd):∀ (i:Nat) (x:Nd),r[i]?=some x->(Yz r)[i*3]?=some (.int .u32 x.sum)/\(Yz r)[i*3+1]?=some (.string x.key)/\(Yz r)[i*3+2]?=some x.v:=by
 induction r with
 | nil=>intro i x h;simp at h
 | cons y r ih =>
   intro i x h
   cases i with
   | zero=>simp at h;subst h;exact ⟨rfl,rfl,rfl⟩
   | succ i =>
     have:=ih i x (by simpa using h)
     rw [P6]
     have e:∀ k,(y.cells++Yz r)[(i+1)*3+k]?=(Yz r)[i*3+k]?:=fun k=>by
      rw [List.getElem?_append_right (by simp [Nd.cells];omega)]
      congr 1
      simp [Nd.cells];omega
     exact ⟨by rw [<- this.1];exact e 0,by rw [<- this.2.1];exact e 1,by rw [<- this.2.2];exact e 2⟩
theorem Jf{r:List Nd}(h:∀ x∈r,x.v.oneCell'=true):∀ u∈Yz r,u.oneCell'=true:=by
 intro u hu;obtain ⟨x,hx,hu⟩:=List.mem_flatMap.1 hu;simp only [Nd.cells,List.mem_cons,List.not_mem_nil,or_false] at hu;rcases hu with rfl|rfl|rfl
 ·rfl
 ·rfl
 ·exact h x hx
theorem y1k{v:Value}(h:tyI.ok v):v.oneCell'=true:=by obtain ⟨n,rfl⟩:=h;rfl
structure Far (S:Nat->Prop) (w w':World):Prop where
 os:w'.os=w.os
 tape:w'.tape=w.tape
 output:w'.output=w.output
 size:w.heap.size<=w'.heap.size
 block:∀ k,k<w.heap.size->¬ S k->w'.heap[k]?=w.heap[k]?
theorem Far.refl(S:Nat->Prop)(w:World):Far S w w:=⟨rfl,rfl,rfl,Nat.le_refl _,fun _ _ _=>rfl⟩
theorem Far.trans{S S1:Nat->Prop}{a b c:World}(h:Far S a b)(g:Far S1 b c)(hs:∀ k,S1 k->S k\/a.heap.size<=k):Far S a c :=
 ⟨g.os.trans h.os,g.tape.trans h.tape,g.output.trans h.output,Nat.le_trans h.size g.size,fun k hk hn =>
   (g.block k (Nat.lt_of_lt_of_le hk h.size) (fun h1=>by rcases hs k h1 with h2|h2;exact hn h2;omega)).trans (h.block k hk hn)⟩
theorem Far.of_below{S:Nat->Prop}{a b:World}(h:Bl a b):Far S a b:=⟨h.os,h.tape,h.output,h.size,fun k hk _=>h.block k hk⟩
theorem Far.of_grown{S:Nat->Prop}{a b:World}{row:Option Nat}(h:a.grownBy b row)(hr:∀ k,row=some k->S k\/a.heap.size<=k):Far S a b :=
 ⟨h.os,h.tape,h.output,h.size,fun k hk hn=>h.block k hk (fun e=>by rcases hr k e.symm with h1|h1;exact hn h1;omega)⟩
theorem Far.then_below{S:Nat->Prop}{a b c:World}(h:Far S a b)(g:Bl b c):Far S a c:=h.trans (S1:=fun _=>False) (Far.of_below g) (fun _ h=>h.elim)
theorem Far.set{S:Nat->Prop}{a b:World}(h:Far S a b)(p:Addr)(v:Value)(hp:S p.block\/a.heap.size<=p.block):Far S a (b.setCell p v) :=
 h.trans (S1:=fun k=>k=p.block) ⟨rfl,rfl,rfl,by simp [World.setCell],fun k _ hn=>Below.heap_setCell _ _ _ _ hn⟩ (fun k e=>by subst e;exact hp)
theorem Far.mono{S S1:Nat->Prop}{a b:World}(h:Far S a b)(hs:∀ k,S k->S1 k):Far S1 a b:=⟨h.os,h.tape,h.output,h.size,fun k hk hn=>h.block k hk (fun h1=>hn (hs k h1))⟩
theorem Far.blk{S:Nat->Prop}{a b:World}(h:Far S a b){k:Nat}{t:TypeId}{c:Array Value}(hk:Blk a k t c)(hn:¬ S k):Blk b k t c:=(h.block k hk.lt hn).trans hk
theorem Blk.ty{W:World}{k:Nat}{t t':TypeId}{c c':Array Value}(h:Blk W k t c)(h':Blk W k t' c'):t=t':=by
 unfold Blk at h h';rw [h] at h';injection h' with h';injection h' with _ ht
def RowAt(T:Ty)(W:World)(v:Value)(r:List Nd):Prop:=W.ownsRow 0 T.r 3 v r.length (Yz r)
theorem RowAt.nil(T:Ty)(W:World):RowAt T W (.slice none 0 0) []:=World.ownsRow_nil _ _ _ _
theorem RowAt.blk{T:Ty}{W:World}{v:Value}{r:List Nd}(h:RowAt T W v r){k:Nat}(hk:v.ownBlock=some k):∃ c,Blk W k T.r c:=by
 rcases h.2 with ⟨rfl,_⟩|⟨g,cap,cur,rfl,_,hg,_⟩
 ·simp [Value.ownBlock] at hk
 ·simp [Value.ownBlock] at hk;subst hk;exact ⟨cur,hg⟩
theorem RowAt.lt{T:Ty}{W:World}{v:Value}{r:List Nd}(h:RowAt T W v r){k:Nat}(hk:v.ownBlock=some k):k<W.heap.size:=by
 obtain ⟨c,hc⟩:=h.blk hk;exact hc.lt
theorem RowAt.keep{T:Ty}{W W':World}{v:Value}{r:List Nd}(h:RowAt T W v r)(hb:∀ k,v.ownBlock=some k->W'.heap[k]?=W.heap[k]?):RowAt T W' v r:=by
 refine ⟨h.1,?_⟩;rcases h.2 with hn|⟨g,cap,cur,rfl,hb',hg,rest⟩
 ·exact .inl hn
 ·exact .inr ⟨g,cap,cur,rfl,hb',(hb g rfl).trans hg,rest⟩
theorem RowAt.far{T:Ty}{S:Nat->Prop}{W W':World}{v:Value}{r:List Nd}(h:RowAt T W v r)(f:Far S W W')(hs:∀ k,v.ownBlock=some k->¬ S k):RowAt T W' v r :=
 h.keep fun k hk=>f.block k (h.lt hk) (hs k hk)
theorem RowAt.form{T:Ty}{W:World}{v:Value}{r:List Nd}(h:RowAt T W v r):∃ A cap,v=.slice A r.length cap/\r.length<=cap/\cap<=maxLen /\
 (∀ i x,r[i]?=some x->∃ g,A=some ⟨g,0,none⟩/\v.ownBlock=some g/\W.cell? ⟨g,i*3,none⟩=some (.int .u32 x.sum)/\W.cell? ⟨g,i*3+1,none⟩=some (.string x.key)/\W.cell? ⟨g,i*3+2,none⟩=some x.v/\∀ o,W.frozen? ⟨g,o,none⟩=false):=by
 have hO:=h;rcases h.2 with ⟨rfl,h0⟩|⟨g,cap,cur,rfl,_,hg,hl,hm,_⟩
 ·have hr:r=[]:=List.eq_nil_of_length_eq_zero h0;subst hr;exact ⟨none,0,rfl,Nat.le_refl _,Nat.zero_le _,fun i x hx=>by simp at hx⟩
 ·refine ⟨some ⟨g,0,none⟩,cap,rfl,hl,hm,fun i x hx=>⟨g,rfl,rfl,?_⟩⟩;obtain ⟨hi,_⟩:=List.getElem?_eq_some_iff.1 hx;obtain ⟨e0,e1,e2⟩:=y0o r i x hx;have hc:=fun j hj=>World.ownsRow.cellAt (w:=W) (base:=0) (e:=T.r) (size:=3) (g:=g) (n:=r.length) (cap:=cap) (xs:=Yz r) hO j hj;exact ⟨(hc _ (by omega)).trans e0,(hc _ (by omega)).trans e1,(hc _ (by omega)).trans e2,fun o=>World.ownsRow.frozenAt (w:=W) (base:=0) (e:=T.r) (size:=3) (g:=g) (n:=r.length) (cap:=cap) (xs:=Yz r) hO o⟩
structure TabAt (T:Ty) (W:World) (g:Nat) (vs:List Value) (rows:List (List Nd)):Prop where
 blk:Blk W g T.t vs.toArray
 len:vs.length=rows.length
 row:∀ (i:Nat) (v:Value) (r:List Nd),vs[i]?=some v->rows[i]?=some r->RowAt T W v r
def Sep(vs:List Value):Prop:=∀ (i j:Nat) (v u:Value) (k:Nat),vs[i]?=some v->vs[j]?=some u->v.ownBlock=some k->u.ownBlock=some k->i=j
def Xa(g:Nat)(vs:List Value)(k:Nat):Prop:=k=g\/∃ v∈vs,v.ownBlock=some k
theorem TabAt.rows{T:Ty}{W:World}{g:Nat}{vs:List Value}{rows:List (List Nd)}(h:TabAt T W g vs rows){i:Nat}{v:Value}(hi:vs[i]?=some v):∃ r,rows[i]?=some r/\RowAt T W v r:=by
 obtain ⟨hlt,_⟩:=List.getElem?_eq_some_iff.1 hi;rw [h.len] at hlt;exact ⟨_,List.getElem?_eq_getElem hlt,h.row i v _ hi (List.getElem?_eq_getElem hlt)⟩
theorem TabAt.mem{T:Ty}{W:World}{g:Nat}{vs:List Value}{rows:List (List Nd)}(h:TabAt T W g vs rows){v:Value}(hv:v∈vs):∃ r,RowAt T W v r:=by
 obtain ⟨i,hi⟩:=List.getElem?_of_mem hv;obtain ⟨r,_,hr⟩:=h.rows hi;exact ⟨r,hr⟩
theorem TabAt.far{T:Ty}{S:Nat->Prop}{W W':World}{g:Nat}{vs:List Value}{rows:List (List Nd)}(h:TabAt T W g vs rows)(f:Far S W W')(hs:∀ k,Xa g vs k->¬ S k):TabAt T W' g vs rows :=
 ⟨f.blk h.blk (hs _ (.inl rfl)),h.len,fun i v r hv hr=>(h.row i v r hv hr).far f fun k hk=>hs k (.inr ⟨v,List.mem_of_getElem? hv,hk⟩)⟩
theorem TabAt.later{T:Ty}{W W':World}{g:Nat}{vs:List Value}{rows:List (List Nd)}(h:TabAt T W g vs rows)(hb:Bl W W'):TabAt T W' g vs rows :=
 h.far (S:=fun _=>False) (Far.of_below hb) fun _ _ h=>h
theorem Sep.set{vs:List Value}(h:Sep vs){i:Nat}{v v':Value}(hv:vs[i]?=some v)(hn:∀ k,v'.ownBlock=some k->v.ownBlock=some k\/∀ u∈vs,u.ownBlock≠some k):Sep (vs.set i v'):=by
 have key:∀ (a:Nat) (x:Value) (k:Nat),(vs.set i v')[a]?=some x->x.ownBlock=some k->(a=i/\v'.ownBlock=some k)\/(a≠i/\vs[a]?=some x):=fun a x k ha hx=>by
  by_cases e:a=i
  ·subst e;rw [List.getElem?_set_self (List.getElem?_eq_some_iff.1 hv).1] at ha
   cases ha
   exact .inl ⟨rfl,hx⟩
  ·rw [List.getElem?_set_ne (fun h=>e h.symm)] at ha;exact .inr ⟨e,ha⟩
 intro a b x y k ha hb hx hy;rcases key a x k ha hx with ⟨rfl,h1⟩|⟨h1,h2⟩ <;> rcases key b y k hb hy with ⟨rfl,h3⟩|⟨h3,h4⟩
 ·rfl
 ·rcases hn k h1 with h5|h5
  ·exact h a b v y k hv h4 h5 hy
  ·exact absurd hy (h5 y (List.mem_of_getElem? h4))
 ·rcases hn k h3 with h5|h5
  ·exact h a b x v k h2 hv hx h5
  ·exact absurd hx (h5 x (List.mem_of_getElem? h2))
 ·exact h a b x y k h2 h4 hx hy
theorem Sep.left{a b:List Value}(h:Sep (a++b)):Sep a:=fun i j v u k hi hj hv hu =>
 h i j v u k ((List.getElem?_append_left (List.getElem?_eq_some_iff.1 hi).1).trans hi) ((List.getElem?_append_left (List.getElem?_eq_some_iff.1 hj).1).trans hj) hv hu
theorem Sep.right{a b:List Value}(h:Sep (a++b)):Sep b:=fun i j v u k hi hj hv hu=>by
 have e:∀ n,(a++b)[a.length+n]?=b[n]?:=fun n=>by rw [List.getElem?_append_right (by omega)];congr 1;omega
 have:=h (a.length+i) (a.length+j) v u k ((e i).trans hi) ((e j).trans hj) hv hu
 omega
theorem Sep.apart{a b:List Value}(h:Sep (a++b)){v u:Value}{k:Nat}(hv:v∈a)(hu:u∈b)(h1:v.ownBlock=some k):u.ownBlock≠some k:=fun h2=>by
 obtain ⟨i,hi⟩:=List.getElem?_of_mem hv;obtain ⟨j,hj⟩:=List.getElem?_of_mem hu
 have:=h i (a.length+j) v u k ((List.getElem?_append_left (List.getElem?_eq_some_iff.1 hi).1).trans hi) (by rw [List.getElem?_append_right (by omega)];rw [<- hj];congr 1;omega) h1 h2
 have:=(List.getElem?_eq_some_iff.1 hi).1
 omega
theorem Sep.join{a b:List Value}(ha:Sep a)(hb:Sep b)(hab:∀ v∈a,∀ u∈b,∀ k,v.ownBlock=some k->u.ownBlock≠some k):Sep (a++b):=by
 intro i j v u k hi hj hv hu;rcases Nat.lt_or_ge i a.length with h1|h1 <;> rcases Nat.lt_or_ge j a.length with h2|h2
 ·rw [List.getElem?_append_left h1] at hi;rw [List.getElem?_append_left h2] at hj;exact ha i j v u k hi hj hv hu
 ·rw [List.getElem?_append_left h1] at hi;rw [List.getElem?_append_right h2] at hj;exact absurd hu (hab v (List.mem_of_getElem? hi) u (List.mem_of_getElem? hj) k hv)
 ·rw [List.getElem?_append_right h1] at hi;rw [List.getElem?_append_left h2] at hj;exact absurd hv (hab u (List.mem_of_getElem? hj) v (List.mem_of_getElem? hi) k hu)
 ·rw [List.getElem?_append_right h1] at hi;rw [List.getElem?_append_right h2] at hj
  have:=hb _ _ v u k hi hj hv hu;omega
theorem Sep.none{vs:List Value}(h:∀ v∈vs,v.ownBlock=none):Sep vs:=fun i j v u k hi _ hv _=>by rw [h v (List.mem_of_getElem? hi)] at hv;cases hv
end Go.Proofs.YtmehfohpjigmmaaGreatDoor.Dc
namespace Go.Proofs.YtmehfohpjigmmaaGreatDoor.Dc
open Zc
open Go.RowKit Go.Shelf
attribute [local go_sem] Oper.semAt_some
def X4(rows:List (List Nd))(x:Nd):List (List Nd):=rows.set (x.sum % rows.length) (rows.getD (x.sum % rows.length) []++[x])
def Yi(rows:List (List Nd))(xs:List Nd):List (List Nd):=xs.foldl X4 rows
theorem Y7(rows:List (List Nd))(x:Nd):(X4 rows x).length=rows.length:=by unfold X4;rw [List.length_set]
theorem Y3(xs:List Nd):∀ rows:List (List Nd),(Yi rows xs).length=rows.length:=by
 induction xs with
 | nil=>intro rows;rfl
 | cons x xs ih=>intro rows;exact (ih _).trans (Y7 rows x)
theorem Pa(rows:List (List Nd))(xs:List Nd)(i:Nat)(x:Nd)(hx:xs[i]?=some x):Yi rows (xs.take (i+1))=X4 (Yi rows (xs.take i)) x:=by
 obtain ⟨hi,he⟩:=List.getElem?_eq_some_iff.1 hx;rw [List.take_succ_eq_append_getElem hi,he];unfold Yi;rw [List.foldl_append];rfl
theorem z5k(rows:List (List Nd)):∀ (i:Nat) (r:List Nd) (x:Nd),rows[i]?=some r->(rows.set i (r++[x])).flatten.length=rows.flatten.length+1:=by
 induction rows with
 | nil=>intro i r x h;simp at h
 | cons y rows ih =>
   intro i r x h
   cases i with
   | zero=>simp at h;subst h;simp;omega
   | succ i=>have:=ih i r x (by simpa using h);simp at this ⊢;omega
theorem O6(rows:List (List Nd))(x:Nd)(h:0<rows.length):(X4 rows x).flatten.length=rows.flatten.length+1:=by
 have hlt:x.sum % rows.length<rows.length:=Nat.mod_lt _ h;unfold X4;rw [List.getD_eq_getElem?_getD,List.getElem?_eq_getElem hlt];exact z5k rows _ _ x (List.getElem?_eq_getElem hlt)
theorem O5(xs:List Nd):∀ rows:List (List Nd),0<rows.length->(Yi rows xs).flatten.length=rows.flatten.length+xs.length:=by
 induction xs with
 | nil=>intro rows _;rfl
 | cons x xs ih =>
   intro rows h
   have:=ih (X4 rows x) (by rw [Y7];exact h)
   rw [O6 rows x h] at this;show (Yi (X4 rows x) xs).flatten.length=_;rw [this,List.length_cons];omega
theorem Jw(rows:List (List Nd)):∀ r∈rows,r.length<=rows.flatten.length:=by
 induction rows with
 | nil=>intro r h;simp at h
 | cons y rows ih =>
   intro r h;rcases List.mem_cons.1 h with rfl|h
   ·simp
   ·have:=ih r h;simp at this ⊢;omega
theorem Kw:(Tryz.prog.info? 288).map (fun i=>(i.zero,i.size,i.bytes))=some (some (.agg #[.int .u32 0,.string ⟨#[]⟩,.int .i64 0]),3,32):=by kernel_rfl
theorem Vf{P:Program}{ops:Array Oper}{o:Oper}{a:Act}{w w':World}{K:Act->World->Prop}{Q:Exit->Act->World->Prop}{E:Prop}{v xv v':Value}(hgd:o.guard=none)(s x:Operand)(t u:TypeId)
 (ho:o.op=Op.call { callee:=Callee.builtin Builtin.append,args:=#[s,x],argTypes:=#[t,u] }) (hs:a.eval s=v) (hx:a.eval x=xv) (hrun:(Builtin.append_ #[t,u] o.type #[v,xv]).run P w=.ok v' w')
 (h:K (a.put o.dst v') w'):if Region.wanted o (yielded ops a.tmps)=true then Oper.wp P o a w K Q else E:=by
 have hw:Region.wanted o (yielded ops a.tmps)=true:=by simp [Region.wanted,hgd]
 rw [if_pos hw];unfold Oper.wp;simp [execOp,ho,resolve,invoke,builtin,hs,hx,hrun,Result.andThen];exact h
theorem J9{W W6:World}{vj:Value}{rj:List Nd}(hown:RowAt tyI W vj rj)(hb:Bl W W6)(x:Nd)(hx:tyI.ok x.v)(hl:rj.length<=1000000) :
 ∃ gg cap' W7,(Builtin.append_ #[289,289] 289 #[vj,.slice (some ⟨W6.heap.size,0,none⟩) 1 1]).run Tryz.prog (W6.alloc (.cells x.cells.toArray 288))=.ok (.slice (some ⟨gg,0,none⟩) (rj.length+1) cap') W7 /\
  RowAt tyI W7 (.slice (some ⟨gg,0,none⟩) (rj.length+1) cap') (rj++[x])/\(W6.alloc (.cells x.cells.toArray 288)).grownBy W7 vj.ownBlock/\(vj.ownBlock=some gg\/gg=W6.heap.size+1):=by
 obtain ⟨i0,hi0,hz0,hz1,hz2⟩:=info_parts Kw;have hk:RowAt tyI (W6.alloc (.cells x.cells.toArray 288)) vj rj:=(hown.far (S:=fun _=>False) (Far.of_below hb) fun _ _ h=>h).far (S:=fun _=>False) (Far.of_below ((Below.refl _ _).alloc (Nat.le_refl _) _)) fun _ _ h=>h
 obtain ⟨v',w',hrun,r1,r2,r3,r4⟩:=run_append_own_at (P:=Tryz.prog) (W6.alloc (.cells x.cells.toArray 288)) 0 289 289 288 i0 _ 3 32 Tryz.underlying289 hi0 hz0 hz1 hz2 rfl (by decide) vj _ _ hk ⟨W6.heap.size,0,none⟩ 1 1 x.cells rfl
  (World.news_of_block (cs:=x.cells.toArray) (t:=288) (fr:=(0,0)) (heap_alloc_new _ _)) (fun u hu=>Jf (r:=[x]) (fun y hy=>by simp at hy;subst hy;exact y1k hx) u (by simpa [Yz] using hu)) (by unfold maxLen;omega) (by omega) (Nat.zero_le _)
 have r1':RowAt tyI w' v' (rj++[x]):=by
  unfold RowAt;rw [V8,List.length_append]
  simpa [Yz,tyI] using r1
 rcases r1.2 with ⟨rfl,h0⟩|⟨gg,cap',cur,rfl,_⟩
 ·omega
 ·refine ⟨gg,cap',w',hrun,r1',r2,?_⟩;rcases r4 with h|h
  ·exact .inl h.symm
  ·right;simp [Value.ownBlock] at h;omega
def PutI(w:World)(g:Nat)(vs:List Value)(rows:List (List Nd))(xs:List Nd)(k:Nat)(wr:World):Prop :=
 ∃ vs',TabAt tyI wr g vs' (Yi rows (xs.take k))/\Sep vs'/\(∀ u∈vs',∀ k,u.ownBlock=some k->(∃ u0∈vs,u0.ownBlock=some k)\/w.heap.size<=k)/\Far (Xa g vs) w wr
theorem PutI.step{w:World}{g:Nat}{vs:List Value}{rows:List (List Nd)}{xs:List Nd}{k:Nat}{wr w1 W6 W7:World}{vs':List Value}
 (hT:TabAt tyI wr g vs' (Yi rows (xs.take k))) (hS:Sep vs') (hI:∀ u∈vs',∀ k,u.ownBlock=some k->(∃ u0∈vs,u0.ownBlock=some k)\/w.heap.size<=k) (hF:Far (Xa g vs) w wr)
 (hb1:Bl wr w1) (hb6:Bl w1 W6) {x:Nd} (hx:xs[k]?=some x) {vj:Value} (hvj:vs'[x.sum % rows.length]?=some vj) {o:Obj} {gg cap':Nat}
 (r1:RowAt tyI W7 (.slice (some ⟨gg,0,none⟩) (((Yi rows (xs.take k)).getD (x.sum % rows.length) []).length+1) cap') ((Yi rows (xs.take k)).getD (x.sum % rows.length) []++[x]))
 (r2:(W6.alloc o).grownBy W7 vj.ownBlock) (r3:vj.ownBlock=some gg\/gg=W6.heap.size+1) :
 PutI w g vs rows xs (k+1) (W7.setCell ⟨g,x.sum % rows.length,none⟩ (.slice (some ⟨gg,0,none⟩) (((Yi rows (xs.take k)).getD (x.sum % rows.length) []).length+1) cap')):=by
 obtain ⟨rj,hrj,hRj⟩:=hT.rows hvj;have hpl:=Y3 (xs.take k) rows;have hsz1:=hb1.size;have hsz6:=hb6.size;have hsz7:=r2.size;have hval:W6.heap.size+1<=W7.heap.size:=by simpa using hsz7
 have hin:∀ {b},vj.ownBlock=some b->Xa g vs' b:=fun h=>.inr ⟨vj,List.mem_of_getElem? hvj,h⟩
 -- all that the append may change
 have f7:Far (fun b=>vj.ownBlock=some b) wr W7:=by
  refine Far.trans (S1:=fun b=>vj.ownBlock=some b) (((Far.of_below hb1).then_below hb6).then_below (((Below.refl _ _).alloc (Nat.le_refl _) o))) (Far.of_grown r2 fun k e=>.inl e) (fun b hb=>.inl hb)
 have hjl:x.sum % rows.length<vs'.length:=(List.getElem?_eq_some_iff.1 hvj).1
 have hne:∀ b,vj.ownBlock=some b->b≠g:=fun b hb e=>by
  subst e;obtain ⟨c,hc⟩:=hRj.blk hb;exact absurd (hc.ty hT.blk) (by decide)
 have hbg:Blk W7 g 289 vs'.toArray:=f7.blk hT.blk (fun h=>hne g h rfl)
 have hgg:gg≠g:=by
  rcases r3 with h|h
  ·exact hne gg h
  ·have:=hT.blk.lt;omega
 refine ⟨vs'.set (x.sum % rows.length) (.slice (some ⟨gg,0,none⟩) (((Yi rows (xs.take k)).getD (x.sum % rows.length) []).length+1) cap'),⟨?_,?_,?_⟩,?_,?_,?_⟩
 ·have:=hbg.set (x.sum % rows.length) (.slice (some ⟨gg,0,none⟩) (((Yi rows (xs.take k)).getD (x.sum % rows.length) []).length+1) cap')
  rwa [List.setIfInBounds_toArray] at this
 ·rw [List.length_set,Pa rows xs k x hx,Y7,hT.len]
 ·intro i v r hv hr;rw [Pa rows xs k x hx] at hr;unfold X4 at hr;rw [hpl] at hr
  by_cases e:i=x.sum % rows.length
  ·subst e;rw [List.getElem?_set_self hjl] at hv;rw [List.getElem?_set_self (by rw [<- hT.len];exact hjl)] at hr
   cases hv;cases hr
   refine r1.far (S:=fun b=>b=g) ((Far.refl _ _).set _ _ (.inl rfl)) ?_;intro b hb e;simp [Value.ownBlock] at hb;omega
  ·rw [List.getElem?_set_ne (fun h=>e h.symm)] at hv hr;have h0:=hT.row i v r hv hr;have h7:RowAt tyI W7 v r:=h0.far f7 fun b hb h=>e (hS i _ v vj b hv hvj hb h);refine h7.far (S:=fun b=>b=g) ((Far.refl _ _).set _ _ (.inl rfl)) ?_;intro b hb e2;subst e2;obtain ⟨c,hc⟩:=h0.blk hb;exact absurd (hc.ty hT.blk) (by decide)
 ·refine hS.set hvj fun b hb=>?_;simp [Value.ownBlock] at hb;subst hb;rcases r3 with h|h
  ·exact .inl h
  ·right
   intro u hu hu2;obtain ⟨r,hr⟩:=hT.mem hu
   have:=hr.lt hu2
   omega
 ·intro u hu b hb;rcases List.mem_or_eq_of_mem_set hu with h|rfl
  ·exact hI u h b hb
  ·simp [Value.ownBlock] at hb;subst hb;rcases r3 with h|h
   ·exact hI vj (List.mem_of_getElem? hvj) _ h
   ·right;have:=hF.size;omega
 ·refine Far.set (hF.trans f7 fun b hb=>?_) _ _ (.inl (.inl rfl));rcases hI vj (List.mem_of_getElem? hvj) b hb with ⟨u0,h1,h2⟩|h
  ·exact .inl (.inr ⟨u0,h1,h2⟩)
  ·exact .inr h
theorem Us(g:Nat)(vs:List Value)(rows:List (List Nd))(v:Value)(xs:List Nd)(w:World)(hT:TabAt tyI w g vs rows)(hS:Sep vs)(hz:isS (rows.length:Int)=true)
 (hr:RowAt tyI w v xs) (hv:∀ u∈vs,∀ k,u.ownBlock=some k->v.ownBlock≠some k) (hf:∀ x∈xs,x.fine tyI) (hn:rows.flatten.length+xs.length<=1000000) :
 Calls Tryz.prog 178 #[.slice (some ⟨g,0,none⟩) rows.length rows.length,v] w fun e w'=>e=.returned (.tuple #[])/\PutI w g vs rows xs xs.length w':=by
 have hvg:∀ k,v.ownBlock=some k->¬ Xa g vs k:=fun k hk h=>by
  rcases h with rfl|⟨u,hu,hu2⟩
  ·obtain ⟨c,hc⟩:=hr.blk hk
   have:=hc.ty hT.blk
   exact absurd this (by decide)
  ·exact hv u hu k hu2 hk
 have hn1:=Zm hz;have H0:PutI w g vs rows xs 0 w:=⟨vs,hT,hS,fun u hu k hk=>.inl ⟨u,hu,hk⟩,Far.refl _ _⟩;have hfar:∀ k wr,PutI w g vs rows xs k wr->RowAt tyI wr v xs:=fun k wr ⟨_,_,_,_,f⟩=>hr.far f hvg;have HFAR:=jY hfar;clear hfar;obtain ⟨A,cap,rfl,hcap,hmax,hat⟩:=hr.form;clear hat;have hn2:(xs.length:Int)<=1000000:=by omega
 have hn3:(4:Int)<=rows.length:=by omega
 have HI:=fun (s:Nat) hs w=>jY (Vs s hs rows.length w);unfold Pp at HI;simp only [hz,if_true] at HI;have HF:=jY hf;clear hf hz hS hT hr hv hvg
 go_enter Tryz.func178,Tryz.ntmps178
 go_wp2
 go_loopw [10] (fun i wr=>∃ (k:Nat),i=.int .i64 k/\k<=xs.length/\PutI w g vs rows xs k wr) (fun i _=>xs.length-(intOf i).toNat)
 case atStart=>exact ⟨0,rfl,by omega,H0⟩
 case round =>
  obtain ⟨k,rfl,hk,hP⟩:=hrel
  by_cases hlt:k<xs.length
  ·have hx:xs[k]?=some xs[k]:=List.getElem?_eq_getElem hlt;obtain ⟨A',cap',he,_,_,hat⟩:=(HFAR.out _ _ hP).form;obtain ⟨gv,hA,hob,c0,c1,c2,fz⟩:=hat k _ hx
   cases he
   subst hA;generalize xs[k]=x at *;obtain ⟨hx1,hx2⟩:=HF.out x (List.mem_of_getElem? hx);obtain ⟨sum,key,vv⟩:=x;obtain ⟨nv,hnv⟩:=hx2;simp only at hnv hx1 c0 c1 c2;subst hnv;obtain ⟨vs',hT,hS,hI,hF⟩:=hP;have hpl:=Y3 (xs.take k) rows;have hj:sum % rows.length<rows.length:=Nat.mod_lt _ (by omega);have hvl:vs'.length=rows.length:=hT.len.trans hpl;obtain ⟨vj,hvj⟩:∃ vj,vs'[sum % rows.length]?=some vj:=⟨_,List.getElem?_eq_getElem (by omega)⟩;obtain ⟨rj,hrj,hRj⟩:=hT.rows hvj
   have hrl:rj.length<=1000000:=by
    have h1:=Jw _ rj (List.mem_of_getElem? hrj);have h2:=O5 (xs.take k) rows (by omega);have h3:(xs.take k).length<=xs.length:=by rw [List.length_take];omega
    omega
   have hgd:(Yi rows (xs.take k)).getD (sum % rows.length) []=rj:=by rw [List.getD_eq_getElem?_getD,hrj];rfl
   have hcg:∀ W,Bl wr W->W.cell? ⟨g,sum % rows.length,none⟩=some vj/\W.frozen? ⟨g,sum % rows.length,none⟩=false:=fun W hW=>by
    have hB:=hT.blk.later hW;exact ⟨by rw [hB.cell];simpa using hvj,hB.free _⟩
   have hgl:=hT.blk.lt
   have hog:vj.ownBlock≠some g:=fun h=>by
    obtain ⟨c,hc⟩:=hRj.blk h;exact absurd (hc.ty hT.blk) (by decide)
   have HI2:=fun w=>HI sum hx1 w;have hje:(sum:Int) % (rows.length:Int)=((sum % rows.length:Nat):Int):=by omega
   simp only [hje] at HI2;have HSTEP:=fun w1 W6 W7 (b1:Bl wr w1) (b6:Bl w1 W6) o gg cap' r1 r2 r3=>jY (PutI.step (w:=w) (vs:=vs) (rows:=rows) (k:=k) (W7:=W7) hT hS hI hF b1 b6 hx hvj (o:=o) (gg:=gg) (cap':=cap') r1 r2 r3);simp only [hgd] at HSTEP;have hja:=jY hj;generalize sum % rows.length=j at *;have HAPP:=fun W6 (b:Bl wr W6)=>jY (J9 hRj b ⟨sum,key,.int .i64 nv⟩ ⟨nv,rfl⟩ hrl);have hj2:(j:Int)<rows.length:=by omega
   clear hx fz hje hgd hrj hRj hT hS hI hF hvl hpl hvj hj HI HF HFAR H0;go_wp2_with fail;refine (HI2 _).out.mono ?_;rintro e w1 ⟨rfl,hb1⟩;have hbw:Bl wr w1:=((Below.refl _ _).alloc (Nat.le_refl _) _).trans (hb1.mono (by simp));have k5:=(Blk.new wr 288 #[Value.int IntKind.u32 ↑sum,Value.string key,Value.int IntKind.i64 nv]).later (by simpa using hb1);obtain ⟨e0,f0⟩:=hcg _ hbw;obtain ⟨gg,cap7,W7,hrun,r1,r2,r3⟩:=(HAPP _ (hbw.drew)).out;obtain ⟨e6,f6⟩:=hcg _ (hbw.alloc hbw.size (Obj.cells #[Value.int IntKind.u32 ↑sum,Value.string key,Value.int IntKind.i64 nv] 288));have e7:W7.cell? ⟨g,j,none⟩=some vj:=(r2.cell_far ⟨g,j,none⟩ (by have:=hbw.size;simp;omega) (fun h=>hog h.symm)).trans e6;have f7:W7.frozen? ⟨g,j,none⟩=false:=(r2.frozen_far ⟨g,j,none⟩ (by have:=hbw.size;simp;omega) (fun h=>hog h.symm)).trans f6;have d0:=k5.cell 0;have d1:=k5.cell 1;have d2:=k5.cell 2;have z1:=hbw.size;have H1:=jY r1;have H2:=jY r2;have H3:=jY r3;have HB:=jY hbw;clear r1 r2 r3 hbw hb1 k5;unfold Nd.cells at hrun H2;go_wp2
   go_region_law (refine Vf rfl _ _ 289 289 (by rfl) (by rfl) (by rfl) hrun ?_)
   all_goals (
    go_wp2;refine ⟨⟨k+1,by go_num,hlt,?_⟩,by simp [intOf];omega⟩
    exact (HSTEP w1 w1.drew W7 HB.out ((Below.refl _ _).drew) _ gg cap7 H1.out H2.out H3.out).out)
  ·obtain rfl:k=xs.length:=by omega
   go_wp2;go_returns;exact ⟨rfl,hP⟩
structure Dc where
 a:List (List Nd)
 b:List (List Nd)
 place:Nat
 n:Nat
def CellB(T:Ty)(W:World)(k:Nat):Prop:=∃ t c,(t=T.d\/t=T.t\/t=T.r)/\Blk W k t c
structure Mem (T:Ty) (W:World) (p g0 g1:Nat) (A1:Option Addr) (va vb:List Value) (seed:Nat) (D:Dc):Prop where
 dict:Blk W p T.d #[.slice (some ⟨g0,0,none⟩) D.a.length D.a.length,.slice A1 D.b.length D.b.length,.int .u32 seed,.int .i64 D.place,.int .i64 D.n]
 ta:TabAt T W g0 va D.a
 tb:(D.b=[]/\vb=[]/\A1=none)\/(D.b≠[]/\A1=some ⟨g1,0,none⟩/\g1≠g0/\TabAt T W g1 vb D.b)
 sep:Sep (va++vb)
structure Foot (S:Nat->Prop) (p g0 g1:Nat) (va vb:List Value) (D:Dc):Prop where
 p:S p
 g0:S g0
 g1:D.b≠[]->S g1
 row:∀ v∈va++vb,∀ k,v.ownBlock=some k->S k
def Rep(T:Ty)(W:World)(p:Nat)(S:Nat->Prop)(seed:Nat)(D:Dc):Prop :=
 ∃ g0 g1 A1 va vb,Mem T W p g0 g1 A1 va vb seed D/\Foot S p g0 g1 va vb D/\∀ k,S k->CellB T W k
theorem CellB.lt{T:Ty}{W:World}{k:Nat}(h:CellB T W k):k<W.heap.size:=by obtain ⟨t,c,_,hb⟩:=h;exact hb.lt
theorem CellB.same{T:Ty}{W W':World}{k:Nat}(h:CellB T W k)(e:W'.heap[k]?=W.heap[k]?):CellB T W' k:=by obtain ⟨t,c,ht,hb⟩:=h;exact ⟨t,c,ht,e.trans hb⟩
theorem Far.keeps{T:Ty}{S:Nat->Prop}{a b:World}(h:Far S a b)(hS:∀ k,S k->CellB T a k)(B:Nat):KeepsFrom B a b :=
 ⟨h.size,fun k o _ hk ho=>(h.block k (Array.getElem?_eq_some_iff.1 hk).1 (fun hs=>by
   obtain ⟨t,c,_,hb⟩:=hS k hs;rw [show a.heap[k]?=_ from hb] at hk
   cases hk;cases ho)).trans hk⟩
theorem Far.keepc{T:Ty}{S:Nat->Prop}{a b:World}(h:Far S a b)(hS:∀ k,S k->CellB T a k)(hT:¬ itT T.d/\¬ itT T.t/\¬ itT T.r)(L:List Nat):KeepC itT L a b :=
 ⟨h.size,fun k c t _ ht hk=>(h.block k (Array.getElem?_eq_some_iff.1 hk).1 (fun hs=>by
   obtain ⟨t',c',ht',hb⟩:=hS k hs;rw [Blk.ty hk hb] at ht;rcases ht' with rfl|rfl|rfl
   ·exact hT.1 ht
   ·exact hT.2.1 ht
   ·exact hT.2.2 ht)).trans hk⟩
def Xe(T:Ty)(S:Nat->Prop)(W W':World)(k:Nat):Prop:=(S k\/W.heap.size<=k)/\CellB T W' k
def Went(T:Ty)(S:Nat->Prop)(W:World)(p seed:Nat)(D:Dc)(W':World):Prop:=Rep T W' p (Xe T S W W') seed D/\Far S W W'
theorem Mem.far{T:Ty}{S:Nat->Prop}{W W':World}{p g0 g1:Nat}{A1:Option Addr}{va vb:List Value}{seed:Nat}{D:Dc}(h:Mem T W p g0 g1 A1 va vb seed D)(f:Far S W W')
 (hp:¬ S p) (h0:¬ S g0) (h1:D.b≠[]->¬ S g1) (hr:∀ v∈va++vb,∀ k,v.ownBlock=some k->¬ S k):Mem T W' p g0 g1 A1 va vb seed D :=
 ⟨f.blk h.dict hp,h.ta.far f (fun k hk=>by
   rcases hk with rfl|⟨v,hv,hk⟩
   ·exact h0
   ·exact hr v (List.mem_append_left _ hv) k hk),by
   rcases h.tb with h2|⟨h2,h3,h4,h5⟩
   ·exact .inl h2
   ·refine .inr ⟨h2,h3,h4,h5.far f fun k hk=>?_⟩;rcases hk with rfl|⟨v,hv,hk⟩
    ·exact h1 h2
    ·exact hr v (List.mem_append_right _ hv) k hk,h.sep⟩
theorem Mem.later{T:Ty}{W W':World}{p g0 g1:Nat}{A1:Option Addr}{va vb:List Value}{seed:Nat}{D:Dc}(h:Mem T W p g0 g1 A1 va vb seed D)(hb:Bl W W'):Mem T W' p g0 g1 A1 va vb seed D :=
 h.far (S:=fun _=>False) (Far.of_below hb) (fun h=>h) (fun h=>h) (fun _ h=>h) (fun _ _ _ _ h=>h)
theorem Rep.far{T:Ty}{S S1:Nat->Prop}{W W':World}{p seed:Nat}{D:Dc}(h:Rep T W p S seed D)(f:Far S1 W W')(hd:∀ k,S k->¬ S1 k):Rep T W' p S seed D:=by
 obtain ⟨g0,g1,A1,va,vb,hm,hf,hc⟩:=h;exact ⟨g0,g1,A1,va,vb,hm.far f (hd _ hf.p) (hd _ hf.g0) (fun h=>hd _ (hf.g1 h)) (fun v hv k hk=>hd _ (hf.row v hv k hk)),hf,fun k hk=>(hc k hk).same (f.block k (hc k hk).lt (hd k hk))⟩
theorem Rep.later{T:Ty}{S:Nat->Prop}{W W':World}{p seed:Nat}{D:Dc}(h:Rep T W p S seed D)(hb:Bl W W'):Rep T W' p S seed D :=
 h.far (S1:=fun _=>False) (Far.of_below hb) fun _ _ h=>h
theorem Rep.cells{T:Ty}{S:Nat->Prop}{W:World}{p seed:Nat}{D:Dc}(h:Rep T W p S seed D):∀ k,S k->CellB T W k:=by obtain ⟨_,_,_,_,_,_,_,hc⟩:=h;exact hc
theorem Rep.wide{T:Ty}{S S1:Nat->Prop}{W:World}{p seed:Nat}{D:Dc}(h:Rep T W p S seed D)(hs:∀ k,S k->S1 k)(hc:∀ k,S1 k->CellB T W k):Rep T W p S1 seed D:=by
 obtain ⟨g0,g1,A1,va,vb,hm,hf,_⟩:=h;exact ⟨g0,g1,A1,va,vb,hm,⟨hs _ hf.p,hs _ hf.g0,fun h=>hs _ (hf.g1 h),fun v hv k hk=>hs _ (hf.row v hv k hk)⟩,hc⟩
theorem Went.start{T:Ty}{S:Nat->Prop}{W:World}{p seed:Nat}{D:Dc}(h:Rep T W p S seed D):Went T S W p seed D W :=
 ⟨h.wide (fun k hk=>⟨.inl hk,h.cells k hk⟩) (fun _ hk=>hk.2),Far.refl _ _⟩
theorem Went.trans{T:Ty}{S:Nat->Prop}{W W1 W2:World}{p seed:Nat}{D D2:Dc}(h:Went T S W p seed D W1)(g:Went T (Xe T S W W1) W1 p seed D2 W2):Went T S W p seed D2 W2 :=
 ⟨g.1.wide (fun k hk=>⟨by
   rcases hk.1 with h1|h1
   ·exact h1.1
   ·exact .inr (Nat.le_trans h.2.size h1),hk.2⟩) (fun _ hk=>hk.2),h.2.trans g.2 fun k hk=>hk.1⟩
theorem Went.later{T:Ty}{S:Nat->Prop}{W W1 W2:World}{p seed:Nat}{D:Dc}(h:Went T S W p seed D W1)(hb:Bl W1 W2):Went T S W p seed D W2 :=
 ⟨(h.1.later hb).wide (fun k hk=>⟨hk.1,hk.2.same (hb.block k hk.2.lt)⟩) (fun _ hk=>hk.2),h.2.then_below hb⟩
theorem Went.since{T:Ty}{S:Nat->Prop}{W W1 W2:World}{p seed:Nat}{D:Dc}(hb:Bl W W1)(h:Went T S W1 p seed D W2):Went T S W p seed D W2 :=
 ⟨h.1.wide (fun k hk=>⟨by
   rcases hk.1 with h1|h1
   ·exact .inl h1
   ·exact .inr (Nat.le_trans hb.size h1),hk.2⟩) (fun _ hk=>hk.2),(Far.of_below hb).trans h.2 fun k hk=>.inl hk⟩
theorem Went.mk'{T:Ty}{S:Nat->Prop}{W W':World}{p g0 g1:Nat}{A1:Option Addr}{va vb:List Value}{seed:Nat}{D:Dc}(hm:Mem T W' p g0 g1 A1 va vb seed D)(hf:Far S W W')
 (hp:S p\/W.heap.size<=p) (h0:S g0\/W.heap.size<=g0) (h1:D.b≠[]->S g1\/W.heap.size<=g1) (hr:∀ v∈va++vb,∀ k,v.ownBlock=some k->S k\/W.heap.size<=k):Went T S W p seed D W':=by
 refine ⟨⟨g0,g1,A1,va,vb,hm,⟨⟨hp,?_⟩,⟨h0,?_⟩,fun h=>⟨h1 h,?_⟩,fun v hv k hk=>⟨hr v hv k hk,?_⟩⟩,fun _ hk=>hk.2⟩,hf⟩
 ·exact ⟨_,_,.inl rfl,hm.dict⟩
 ·exact ⟨_,_,.inr (.inl rfl),hm.ta.blk⟩
 ·rcases hm.tb with ⟨h2,_⟩|⟨_,_,_,h2⟩
  ·exact absurd h2 h
  ·exact ⟨_,_,.inr (.inl rfl),h2.blk⟩
 ·rcases List.mem_append.1 hv with h|h
  ·obtain ⟨r,hr⟩:=hm.ta.mem h;obtain ⟨c,hc⟩:=hr.blk hk;exact ⟨_,c,.inr (.inr rfl),hc⟩
  ·rcases hm.tb with ⟨_,h2,_⟩|⟨_,_,_,h2⟩
   ·rw [h2] at h;simp at h
   ·obtain ⟨r,hr⟩:=h2.mem h;obtain ⟨c,hc⟩:=hr.blk hk;exact ⟨_,c,.inr (.inr rfl),hc⟩
theorem Zk{T:Ty}{W:World}{p g0 g1:Nat}{A1:Option Addr}{va vb:List Value}{seed:Nat}{D:Dc}(h:Mem T W p g0 g1 A1 va vb seed D) :
 W.cell? ⟨p,0,none⟩=some (.slice (some ⟨g0,0,none⟩) D.a.length D.a.length)/\W.cell? ⟨p,1,none⟩=some (.slice A1 D.b.length D.b.length)/\W.cell? ⟨p,2,none⟩=some (.int .u32 seed) /\
 W.cell? ⟨p,3,none⟩=some (.int .i64 D.place)/\W.cell? ⟨p,4,none⟩=some (.int .i64 D.n)/\W.frozen? ⟨p,0,none⟩=false/\W.frozen? ⟨p,1,none⟩=false/\W.frozen? ⟨p,3,none⟩=false/\W.frozen? ⟨p,4,none⟩=false :=
 ⟨h.dict.cell 0,h.dict.cell 1,h.dict.cell 2,h.dict.cell 3,h.dict.cell 4,h.dict.free 0,h.dict.free 1,h.dict.free 3,h.dict.free 4⟩
structure Dc.Ok (T:Ty) (D:Dc):Prop where
 a:isS (D.a.length:Int)=true
 b:D.b≠[]->isS (D.b.length:Int)=true
 place:D.b≠[]->D.place<D.a.length
 still:D.b=[]->D.place=0
 past:∀ i,i<D.place->D.a.getD i []=[]
 n:D.n=D.a.flatten.length+D.b.flatten.length
 fine:∀ r,r∈D.a\/r∈D.b->∀ x∈r,x.fine T
def Dc.moving(D:Dc):Bool:=decide (0<D.b.length)
section
variable {S:Nat->Prop} {p seed:Nat} {D:Dc} {w:World}
theorem X2(h:Rep tyI w p S seed D):Calls Tryz.prog 202 #[.pointer (some ⟨p,0,none⟩)] w fun e w'=>e=.returned (.bool D.moving)/\w'=w:=by
 obtain ⟨g0,g1,A1,va,vb,hm,hf,hc⟩:=h;obtain ⟨c0,c1,c2,c3,c4,f0,f1,f3,f4⟩:=Zk hm;unfold Dc.moving
 go_enter Tryz.func202,Tryz.ntmps202
 go_wp2;go_ret;exact ⟨by simp,rfl⟩
theorem O2{g0 g1:Nat}{A1:Option Addr}{va vb:List Value}(h:Mem tyI w p g0 g1 A1 va vb seed D)(hf:Foot S p g0 g1 va vb D)(hc:∀ k,S k->CellB tyI w k) :
 Calls Tryz.prog 177 #[.pointer (some ⟨p,0,none⟩)] w fun e w'=>e=.returned (bif D.moving then .slice A1 D.b.length D.b.length else .slice (some ⟨g0,0,none⟩) D.a.length D.a.length)/\w'=w:=by
 have hm:=X2 (w:=w) ⟨g0,g1,A1,va,vb,h,hf,hc⟩;obtain ⟨c0,c1,c2,c3,c4,f0,f1,f3,f4⟩:=Zk h
 cases hmv:D.moving with
 | false =>
   rw [hmv] at hm;have HM:=jY hm;clear hm hmv
   go_enter Tryz.func177,Tryz.ntmps177
   go_wp2_with fail;refine HM.out.mono ?_;rintro e w' ⟨rfl,rfl⟩;go_wp2;go_ret;exact ⟨rfl,rfl⟩
 | true =>
   rw [hmv] at hm;have HM:=jY hm;clear hm hmv
   go_enter Tryz.func177,Tryz.ntmps177
   go_wp2_with fail;refine HM.out.mono ?_;rintro e w' ⟨rfl,rfl⟩;go_wp2;go_ret;exact ⟨rfl,rfl⟩
theorem X6(hsd:seed<4294967296)(h:Rep tyI w p S seed D)(key:ByteArray)(hk:key.size<=281474976710656) :
 Calls Tryz.prog 179 #[.pointer (some ⟨p,0,none⟩),.string key] w fun e w'=>e=.returned (.agg #[.int .u32 (Zi seed key.data.toList),.string key])/\Bl w w':=by
 obtain ⟨g0,g1,A1,va,vb,hm,hf,hc⟩:=h;obtain ⟨c0,c1,c2,c3,c4,f0,f1,f3,f4⟩:=Zk hm;have hpl:=hm.dict.lt;have HS:=fun w=>jY (J5 seed hsd key hk w);generalize Zi seed key.data.toList=sm at *;clear hm hf hc
 go_enter Tryz.func179,Tryz.ntmps179
 go_wp2_with fail;refine (HS _).out.mono ?_;rintro e w1 ⟨rfl,hb1⟩;have hB:=(Blk.new w 145 #[Value.int IntKind.u32 0,Value.string { data:=#[] }]).later hb1;have e0:=hB.cell 0;have e1:=hB.cell 1;have z0:=hB.free 0;have z1:=hB.free 1;have HH:=jY hB;have HL:=jY hb1;clear hB hb1;go_wp2;have g1:=(HH.out.set 0 (.int .u32 sm)).set 1 (.string key);have q0:=g1.cell 0;have q1:=g1.cell 1;refine bodyPost_ret (v:=.agg #[.int .u32 sm,.string key]) ?_ rfl ⟨rfl,?_⟩
 ·simp [results,Tryz.results179,go_sem,q0,q1]
 ·exact (((((Below.refl _ _).alloc (Nat.le_refl _) _)).trans (HL.out.mono (by simp))).setCell (p:=⟨w.heap.size,0,none⟩) (Nat.le_refl _) _).setCell (p:=⟨w.heap.size,1,none⟩) (Nat.le_refl _) _
theorem Mr{w w1:World}(h:Below w.drew.heap.size w.drew w1):Bl w w1:=⟨h.os,h.tape,h.output,h.size,h.block⟩
theorem Oq:(Tryz.prog.info? 289).map (fun i=>(i.zero,i.size,i.bytes))=some (some (.slice none 0 0),1,24):=by kernel_rfl
theorem y0m(n:Int):Zg n∈Xb:=by
 unfold Zg fit
 cases h:Xb.find? (fun (x:Nat)=>decide (n<=(x:Int))) with
 | none=>simp [Xb]
 | some x=>exact List.mem_of_find?_eq_some h
theorem Vp(n:Int):isS (Zg n:Int)=true:=(z2l _).2 ⟨_,y0m n,rfl⟩
def Dc.begin(D:Dc)(m:Nat):Dc:={ D with b:=List.replicate (Zg m) [] }
theorem Qx(h:Rep tyI w p S seed D)(m:Nat)(hb:D.b=[]) :
 Calls Tryz.prog 203 #[.pointer (some ⟨p,0,none⟩),.int .i64 m] w fun e w'=>e=.returned (.tuple #[])/\Went tyI S w p seed (D.begin m) w':=by
 obtain ⟨g0,g1,A1,va,vb,hm,hf,hc⟩:=h;obtain ⟨c0,c1,c2,c3,c4,f0,f1,f3,f4⟩:=Zk hm;have HS:=fun w=>jY (Qq m w);have hpl:=hm.dict.lt;have HM:=jY hm;have hs4:=Zm (Vp m);clear hm;obtain ⟨i0,hi0,hz0,hz1,hz2⟩:=info_parts Oq;have hmk:=fun W=>run_make (P:=Tryz.prog) W 259 289 i0 _ Tryz.underlying259 hi0 hz0 .i64 .i64 (Zg m) (Zg m) (by omega) (Int.le_refl _) (by rw [hz2];omega) (by omega);rw [hz1] at hmk;simp only [Int.toNat_natCast,Nat.mul_one] at hmk;have HCP:∀ W,Bl w W->Hid (W.cell? ⟨p,1,none⟩=some (.slice A1 D.b.length D.b.length)/\W.frozen? ⟨p,1,none⟩=false):=fun W hW=>jY ⟨(HM.out.dict.later hW).cell 1,(HM.out.dict.later hW).free 1⟩
 have HEND:∀ w1,Bl w w1->Hid (Went tyI S w p seed (D.begin m) ((w1.alloc (Obj.cells (madeCells #[Value.slice none 0 0] (Zg m)) 289)).setCell ⟨p,1,none⟩ (Value.slice (some ⟨w1.heap.size,0,none⟩) (Zg m) (Zg m)))):=fun w1 hb1=>jY (by
  have hm1:=HM.out.later hb1;have hz1:=hb1.size
  have hvb:vb=[]:=by
   rcases HM.out.tb with ⟨_,h,_⟩|⟨h,_⟩
   ·exact h
   ·exact absurd hb h
  subst hvb;have hs:=hm1.sep;rw [List.append_nil] at hs;have hd:=((hm1.dict.alloc (Obj.cells (madeCells #[Value.slice none 0 0] (Zg m)) 289)).set 1 (Value.slice (some ⟨w1.heap.size,0,none⟩) (Zg m) (Zg m)))
  have hfr:Far S w ((w1.alloc (Obj.cells (madeCells #[Value.slice none 0 0] (Zg m)) 289)).setCell ⟨p,1,none⟩ (Value.slice (some ⟨w1.heap.size,0,none⟩) (Zg m) (Zg m))) :=
   ((Far.of_below hb1).then_below ((Below.refl _ _).alloc (Nat.le_refl _) _)).set _ _ (.inl hf.p)
  have hnew:Blk ((w1.alloc (Obj.cells (madeCells #[Value.slice none 0 0] (Zg m)) 289)).setCell ⟨p,1,none⟩ (Value.slice (some ⟨w1.heap.size,0,none⟩) (Zg m) (Zg m))) w1.heap.size 289 (madeCells #[Value.slice none 0 0] (Zg m)) :=
   (Blk.new w1 289 _).setOther 1 _ (by omega)
  have hmc:madeCells #[Value.slice none 0 0] (Zg m)=(List.replicate (Zg m) (Value.slice none 0 0)).toArray:=by
   rw [<- toList_madeCells_one]
  refine Went.mk' (g0:=g0) (g1:=w1.heap.size) (A1:=some ⟨w1.heap.size,0,none⟩) (va:=va) (vb:=List.replicate (Zg m) (.slice none 0 0)) ⟨?_,?_,.inr ⟨?_,rfl,?_,⟨?_,?_,?_⟩⟩,?_⟩ hfr (.inl hf.p) (.inl hf.g0) (fun _=>.inr (by omega)) ?_
  ·simpa [Dc.begin] using hd
  ·refine (hm1.ta.later (W':=(w1.alloc (Obj.cells (madeCells #[Value.slice none 0 0] (Zg m)) 289))) ((Below.refl _ _).alloc (Nat.le_refl _) _)).far (S:=fun k=>k=p) ((Far.refl _ _).set _ _ (.inl rfl)) ?_;rintro k (rfl|⟨v,hv,hk⟩) rfl
   ·exact absurd (hm1.ta.blk.ty hm1.dict) (by decide)
   ·obtain ⟨r,hr⟩:=hm1.ta.mem hv;obtain ⟨c,hc⟩:=hr.blk hk;exact absurd (hc.ty hm1.dict) (by decide)
  ·simp [Dc.begin];omega
  ·have:=hm1.ta.blk.lt;omega
  ·rw [<- hmc];exact hnew
  ·simp [Dc.begin]
  ·intro i v r hv hr;obtain ⟨hi,rfl⟩:=List.getElem?_eq_some_iff.1 hv;obtain ⟨hi2,rfl⟩:=List.getElem?_eq_some_iff.1 hr;simp only [List.getElem_replicate,Dc.begin];exact RowAt.nil _ _
  ·refine hs.join (Sep.none fun v hv=>?_) (fun v hv u hu k hk=>?_)
   ·rw [List.eq_of_mem_replicate hv];rfl
   ·rw [List.eq_of_mem_replicate hu];simp [Value.ownBlock]
  ·intro v hv k hk;rcases List.mem_append.1 hv with h|h
   ·exact .inl (hf.row v (List.mem_append_left _ h) k hk)
   ·rw [List.eq_of_mem_replicate h] at hk;simp [Value.ownBlock] at hk)
 generalize Zg m=s at *;clear hf hc hi0 hz0 hz1 hz2
 go_enter Tryz.func203,Tryz.ntmps203
 go_wp2
 go_region_law ((go_simp;go_at_call 135;refine (HS _).out.mono ?_;rintro e w1 ⟨rfl,hb1⟩;obtain ⟨q1,z1⟩:=(HCP _ ((Mr hb1).alloc hb1.size (Obj.cells (madeCells #[Value.slice none 0 0] s) 289))).out))
 all_goals go_wp2
 all_goals go_returns
 all_goals exact ⟨rfl,(HEND w1 (Mr hb1)).out⟩
end
def Dc.grown(D:Dc):Dc:=if D.b=[]/\D.a.length<=D.n/\D.a.length<65536 then D.begin (2*D.n) else D
def Dc.shrunk(D:Dc):Dc:=if D.b=[]/\4<D.a.length/\8*D.n<D.a.length then D.begin D.n else D
theorem Yj(D:Dc):D.moving=false↔D.b=[]:=by
 unfold Dc.moving
 cases D.b with
 | nil=>simp
 | cons x l=>simp
section
variable {S:Nat->Prop} {p seed:Nat} {D:Dc} {w:World}
theorem Ji(h:Rep tyI w p S seed D)(hn:D.n<=1000000):Calls Tryz.prog 176 #[.pointer (some ⟨p,0,none⟩)] w fun e w'=>e=.returned (.tuple #[])/\Went tyI S w p seed D.grown w':=by
 have hmv:=X2 h;have hst:=jY (Went.start h);have H:=jY h;obtain ⟨g0,g1,A1,va,vb,hm,hf,hc⟩:=h;obtain ⟨c0,c1,c2,c3,c4,f0,f1,f3,f4⟩:=Zk hm;clear hm hf hc
 cases hb:D.moving with
 | true =>
   have hD:D.grown=D:=by unfold Dc.grown;rw [if_neg];intro h;rw [(Yj D).2 h.1] at hb;cases hb
   rw [hD];rw [hb] at hmv;have HM:=jY hmv;clear hmv hb hD
   go_enter Tryz.func176,Tryz.ntmps176
   go_wp2_with fail;refine HM.out.mono ?_;rintro e w1 ⟨rfl,rfl⟩;go_wp2;go_returns;exact ⟨rfl,hst.out⟩
 | false =>
   have hbn:=(Yj D).1 hb;rw [hb] at hmv;have HM:=jY hmv
   by_cases hc:D.a.length<=D.n/\D.a.length<65536
   ·have hD:D.grown=D.begin (2*D.n):=by unfold Dc.grown;rw [if_pos ⟨hbn,hc.1,hc.2⟩]
    have HB:=jY (Qx H.out (2*D.n) hbn);rw [hD];obtain ⟨h1,h2⟩:=hc;have h1':(D.a.length:Int)<=D.n:=by omega
    have h2':(D.a.length:Int)<65536:=by omega
    have h3:(D.n:Int)<=1000000:=by omega
    have hcast:((2*D.n:Nat):Int)=2*(D.n:Int):=by omega
    rw [hcast] at HB;clear hmv hb hD hbn hcast hst
    go_enter Tryz.func176,Tryz.ntmps176
    go_wp2_with fail;refine HM.out.mono ?_;rintro e w1 ⟨rfl,rfl⟩;go_wp2_with fail;refine HB.out.mono ?_;rintro e w1 ⟨rfl,hw⟩;have HW:=jY hw;clear hw;go_wp2;go_returns;exact ⟨rfl,HW.out⟩
   ·have hD:D.grown=D:=by unfold Dc.grown;rw [if_neg];intro h;exact hc ⟨h.2.1,h.2.2⟩
    rw [hD];clear hmv hb hD hbn
    by_cases h1:D.n<D.a.length
    ·have h1':(D.n:Int)<D.a.length:=by omega
     go_enter Tryz.func176,Tryz.ntmps176
     go_wp2_with fail;refine HM.out.mono ?_;rintro e w1 ⟨rfl,rfl⟩;go_wp2;go_returns;exact ⟨rfl,hst.out⟩
    ·have h1':(D.a.length:Int)<=D.n:=by omega
     have h2':decide ((D.a.length:Int)<65536)=false:=by rw [decide_eq_false_iff_not];omega
     clear hc h1
     go_enter Tryz.func176,Tryz.ntmps176
     go_wp2_with fail;refine HM.out.mono ?_;rintro e w1 ⟨rfl,rfl⟩;go_wp2;go_returns;exact ⟨rfl,hst.out⟩
end
def Ty.Apart(T:Ty):Prop:=T.d≠T.t/\T.d≠T.r/\T.t≠T.r
theorem Qb:tyI.Apart:=⟨by decide,by decide,by decide⟩
theorem TabAt.past{T:Ty}(hT:T.Apart){W W':World}{p g:Nat}{vs:List Value}{rows:List (List Nd)}{c:Array Value}(h:TabAt T W g vs rows)(f:Far (fun k=>k=p) W W')(hp:Blk W p T.d c):TabAt T W' g vs rows:=by
 refine h.far f ?_;rintro k (rfl|⟨v,hv,hk⟩) rfl
 ·exact hT.1 (hp.ty h.blk)
 ·obtain ⟨r,hr⟩:=h.mem hv;obtain ⟨c,hc⟩:=hr.blk hk;exact hT.2.1 (hp.ty hc)
theorem TabAt.emptied{T:Ty}(hT:T.Apart){W:World}{g:Nat}{vs:List Value}{rows:List (List Nd)}(h:TabAt T W g vs rows)(i:Nat) :
 TabAt T (W.setCell ⟨g,i,none⟩ (.slice none 0 0)) g (vs.set i (.slice none 0 0)) (rows.set i []):=by
 have f:Far (fun k=>k=g) W (W.setCell ⟨g,i,none⟩ (.slice none 0 0)):=(Far.refl _ _).set _ _ (.inl rfl);refine ⟨?_,by rw [List.length_set,List.length_set];exact h.len,fun j v r hv hr=>?_⟩
 ·have:=h.blk.set i (.slice none 0 0)
  rwa [List.setIfInBounds_toArray] at this
 ·by_cases e:j=i
  ·subst e;rw [List.getElem?_set_self (by have:=(List.getElem?_eq_some_iff.1 hv).1;simpa using this)] at hv;rw [List.getElem?_set_self (by have:=(List.getElem?_eq_some_iff.1 hr).1;simpa using this)] at hr
   cases hv;cases hr
   exact RowAt.nil _ _
  ·rw [List.getElem?_set_ne (fun h=>e h.symm)] at hv hr;refine (h.row j v r hv hr).far f fun k hk e=>?_;subst e;obtain ⟨c,hc⟩:=(h.row j v r hv hr).blk hk;exact hT.2.2 (h.blk.ty hc)
theorem TabAt.beside{T:Ty}(hT:T.Apart){W W':World}{g g1:Nat}{vs us:List Value}{rows rows1:List (List Nd)}(h:TabAt T W g vs rows)(h1:TabAt T W g1 us rows1)(hg:g≠g1)(hs:∀ v∈vs,∀ u∈us,∀ k,v.ownBlock=some k->u.ownBlock≠some k)
 (f:Far (Xa g1 us) W W'):TabAt T W' g vs rows:=by
 refine h.far f ?_;rintro k (rfl|⟨v,hv,hk⟩) (h2|⟨u,hu,hk2⟩)
 ·exact hg h2
 ·obtain ⟨r,hr⟩:=h1.mem hu;obtain ⟨c,hc⟩:=hr.blk hk2;exact hT.2.2 (h.blk.ty hc)
 ·subst h2;obtain ⟨r,hr⟩:=h.mem hv;obtain ⟨c,hc⟩:=hr.blk hk;exact hT.2.2 (h1.blk.ty hc)
 ·exact hs v hv u hu k hk hk2
def Dc.move1(D:Dc):Dc :=
 if D.place+1=D.a.length then ⟨Yi D.b (D.a.getD D.place []),[],0,D.n⟩ else ⟨D.a.set D.place [],Yi D.b (D.a.getD D.place []),D.place+1,D.n⟩
theorem z9y{D:Dc}(h:D.moving=true):D.b≠[]:=fun e=>by rw [(Yj D).2 e] at h;cases h
section
variable {S:Nat->Prop} {p seed:Nat} {D:Dc} {w:World}
theorem Jp{g0 g1:Nat}{A1:Option Addr}{va vb:List Value}(hm:Mem tyI w p g0 g1 A1 va vb seed D)(hb:D.b≠[]){w1:World}(hP:PutI w g1 vb D.b (D.a.getD D.place []) (D.a.getD D.place []).length w1) :
 ∃ vb',Mem tyI w1 p g0 g1 A1 va vb' seed { D with b:=Yi D.b (D.a.getD D.place []) }/\(∀ u∈vb',∀ k,u.ownBlock=some k->(∃ u0∈vb,u0.ownBlock=some k)\/w.heap.size<=k)/\Far (Xa g1 vb) w w1:=by
 obtain ⟨vb',hT,hS,hI,hF⟩:=hP;rw [List.take_length] at hT;rcases hm.tb with ⟨h,_⟩|⟨_,hA,hg,htb⟩
 ·exact absurd h hb
 have hsa:=fun v (hv:v∈va) u (hu:u∈vb) k hk=>Sep.apart hm.sep hv hu (k:=k) hk;have hta:=hm.ta.beside Qb htb (fun e=>hg e.symm) hsa hF;refine ⟨vb',⟨?_,hta,.inr ⟨?_,hA,hg,hT⟩,hm.sep.left.join hS fun v hv u hu k hk h2=>?_⟩,hI,hF⟩
 ·have:=hF.blk hm.dict (fun h=>by
   rcases h with h|⟨u,hu,h⟩
   ·subst h;exact absurd (hm.dict.ty htb.blk) (by decide)
   ·obtain ⟨r,hr⟩:=htb.mem hu;obtain ⟨c,hc⟩:=hr.blk h
    exact absurd (hm.dict.ty hc) (by decide))
  simpa [Y3] using this
 ·intro e
  have:=congrArg List.length e
  rw [Y3] at this;exact hb (List.eq_nil_of_length_eq_zero (by simpa using this))
 ·rcases hI u hu k h2 with ⟨u0,h3,h4⟩|h3
  ·exact Sep.apart hm.sep hv h3 hk h4
  ·obtain ⟨r,hr⟩:=hm.ta.mem hv
   have:=hr.lt hk
   omega
theorem Fw{g0 g1:Nat}{A1:Option Addr}{va vb vb':List Value}(hf:Foot S p g0 g1 va vb D)(hb:D.b≠[]){w1:World}(hm1:Mem tyI w1 p g0 g1 A1 va vb' seed { D with b:=Yi D.b (D.a.getD D.place []) })
 (hI:∀ u∈vb',∀ k,u.ownBlock=some k->(∃ u0∈vb,u0.ownBlock=some k)\/w.heap.size<=k) (hF:Far (Xa g1 vb) w w1) (hl:D.place+1≠D.a.length) :
 Went tyI S w p seed D.move1 ((w1.setCell ⟨g0,D.place,none⟩ (.slice none 0 0)).setCell ⟨p,3,none⟩ (.int .i64 (D.place+1:Nat))):=by
 have hd:D.move1=⟨D.a.set D.place [],Yi D.b (D.a.getD D.place []),D.place+1,D.n⟩:=by unfold Dc.move1;rw [if_neg hl]
 rw [hd];rcases hm1.tb with ⟨h,_⟩|⟨hb1,hA,hg,htb⟩
 ·exact absurd (by have:=congrArg List.length h;simp only [Y3] at this;exact List.eq_nil_of_length_eq_zero (by simpa using this)) hb
 have hgp:p≠g0:=fun e=>by have h1:=hm1.dict;rw [e] at h1;exact absurd (h1.ty hm1.ta.blk) (by decide)
 have hbl:=hm1.dict.setOther D.place (.slice none 0 0) hgp;have f1:Far (fun k=>k=g0) w1 (w1.setCell ⟨g0,D.place,none⟩ (.slice none 0 0)):=(Far.refl _ _).set _ _ (.inl rfl);have f2:Far (fun k=>k=p) (w1.setCell ⟨g0,D.place,none⟩ (.slice none 0 0)) ((w1.setCell ⟨g0,D.place,none⟩ (.slice none 0 0)).setCell ⟨p,3,none⟩ (.int .i64 (D.place+1:Nat))):=(Far.refl _ _).set _ _ (.inl rfl);refine Went.mk' (g0:=g0) (g1:=g1) (A1:=A1) (va:=va.set D.place (.slice none 0 0)) (vb:=vb') ⟨?_,?_,.inr ⟨hb1,hA,hg,?_⟩,?_⟩ ?_ (.inl hf.p) (.inl hf.g0) (fun _=>.inl (hf.g1 hb)) ?_
 ·have:=hbl.set 3 (.int .i64 (D.place+1:Nat))
  simpa using this
 ·exact (hm1.ta.emptied Qb D.place).past Qb f2 hbl
 ·refine TabAt.past Qb ?_ f2 hbl;refine htb.far f1 ?_;rintro k (rfl|⟨v,hv,hk⟩) rfl
  ·exact hg rfl
  ·obtain ⟨r,hr⟩:=htb.mem hv;obtain ⟨c,hc⟩:=hr.blk hk;exact absurd (hm1.ta.blk.ty hc) (by decide)
 ·have hs:=hm1.sep;refine Sep.join ?_ hs.right fun v hv u hu k hk=>?_
  ·by_cases hi:D.place<va.length
   ·exact hs.left.set (List.getElem?_eq_getElem hi) fun k hk=>by simp [Value.ownBlock] at hk
   ·rw [List.set_eq_of_length_le (by omega)];exact hs.left
  ·rcases List.mem_or_eq_of_mem_set hv with h|rfl
   ·exact Sep.apart hs h hu hk
   ·simp [Value.ownBlock] at hk
 ·refine ((hF.mono (S1:=S) ?_).set _ _ (.inl hf.g0)).set _ _ (.inl hf.p);rintro k (rfl|⟨u,hu,hk⟩)
  ·exact hf.g1 hb
  ·exact hf.row u (List.mem_append_right _ hu) k hk
 ·intro v hv k hk;rcases List.mem_append.1 hv with h|h
  ·rcases List.mem_or_eq_of_mem_set h with h|rfl
   ·exact .inl (hf.row v (List.mem_append_left _ h) k hk)
   ·simp [Value.ownBlock] at hk
  ·rcases hI v h k hk with ⟨u0,h1,h2⟩|h1
   ·exact .inl (hf.row u0 (List.mem_append_right _ h1) k h2)
   ·exact .inr h1
theorem Mp{g0 g1:Nat}{A1:Option Addr}{va vb vb':List Value}(hf:Foot S p g0 g1 va vb D)(hb:D.b≠[]){w1:World}(hm1:Mem tyI w1 p g0 g1 A1 va vb' seed { D with b:=Yi D.b (D.a.getD D.place []) })
 (hI:∀ u∈vb',∀ k,u.ownBlock=some k->(∃ u0∈vb,u0.ownBlock=some k)\/w.heap.size<=k) (hF:Far (Xa g1 vb) w w1) (hl:D.place+1=D.a.length) :
 Went tyI S w p seed D.move1 (((((w1.setCell ⟨g0,D.place,none⟩ (.slice none 0 0)).setCell ⟨p,3,none⟩ (.int .i64 (D.place+1:Nat))).setCell ⟨p,0,none⟩ (.slice A1 D.b.length D.b.length)).setCell ⟨p,1,none⟩ (.slice none 0 0)).setCell ⟨p,3,none⟩ (.int .i64 0)):=by
 have hd:D.move1=⟨Yi D.b (D.a.getD D.place []),[],0,D.n⟩:=by unfold Dc.move1;rw [if_pos hl]
 rw [hd];rcases hm1.tb with ⟨h,_⟩|⟨hb1,hA,hg,htb⟩
 ·exact absurd (by have:=congrArg List.length h;simp only [Y3] at this;exact List.eq_nil_of_length_eq_zero (by simpa using this)) hb
 have hgp:p≠g0:=fun e=>by have h1:=hm1.dict;rw [e] at h1;exact absurd (h1.ty hm1.ta.blk) (by decide)
 have hbl:=hm1.dict.setOther D.place (.slice none 0 0) hgp;have f1:Far (fun k=>k=g0) w1 (w1.setCell ⟨g0,D.place,none⟩ (.slice none 0 0)):=(Far.refl _ _).set _ _ (.inl rfl)
 have f2:Far (fun k=>k=p) (w1.setCell ⟨g0,D.place,none⟩ (.slice none 0 0)) (((((w1.setCell ⟨g0,D.place,none⟩ (.slice none 0 0)).setCell ⟨p,3,none⟩ (.int .i64 (D.place+1:Nat))).setCell ⟨p,0,none⟩ (.slice A1 D.b.length D.b.length)).setCell ⟨p,1,none⟩ (.slice none 0 0)).setCell ⟨p,3,none⟩ (.int .i64 0)) :=
  ((((Far.refl (fun k=>k=p) _).set ⟨p,3,none⟩ _ (.inl rfl)).set ⟨p,0,none⟩ _ (.inl rfl)).set ⟨p,1,none⟩ _ (.inl rfl)).set ⟨p,3,none⟩ _ (.inl rfl)
 refine Went.mk' (g0:=g1) (g1:=g1) (A1:=none) (va:=vb') (vb:=[]) ⟨?_,?_,.inl ⟨rfl,rfl,rfl⟩,?_⟩ ?_ (.inl hf.p) (.inl (hf.g1 hb)) (fun h=>absurd rfl h) ?_
 ·have:=(((hbl.set 3 (.int .i64 (D.place+1:Nat))).set 0 (.slice A1 D.b.length D.b.length)).set 1 (.slice none 0 0)).set 3 (.int .i64 0)
  simpa [hA,Y3] using this
 ·refine TabAt.past Qb ?_ f2 hbl;refine htb.far f1 ?_;rintro k (rfl|⟨v,hv,hk⟩) rfl
  ·exact hg rfl
  ·obtain ⟨r,hr⟩:=htb.mem hv;obtain ⟨c,hc⟩:=hr.blk hk;exact absurd (hm1.ta.blk.ty hc) (by decide)
 ·rw [List.append_nil];exact hm1.sep.right
 ·refine (((((hF.mono (S1:=S) ?_).set _ _ (.inl hf.g0)).set _ _ (.inl hf.p)).set _ _ (.inl hf.p)).set _ _ (.inl hf.p)).set _ _ (.inl hf.p);rintro k (rfl|⟨u,hu,hk⟩)
  ·exact hf.g1 hb
  ·exact hf.row u (List.mem_append_right _ hu) k hk
 ·intro v hv k hk;rw [List.append_nil] at hv;rcases hI v hv k hk with ⟨u0,h1,h2⟩|h1
  ·exact .inl (hf.row u0 (List.mem_append_right _ h1) k h2)
  ·exact .inr h1
theorem Jo(h:Rep tyI w p S seed D)(ok:D.Ok tyI)(hb:D.b≠[])(hn:D.n<=1000000) :
 Calls Tryz.prog 210 #[.pointer (some ⟨p,0,none⟩),.int .i64 D.place] w fun e w'=>e=.returned (.tuple #[])/\Went tyI S w p seed D.move1 w':=by
 obtain ⟨g0,g1,A1,va,vb,hm,hf,hc⟩:=h;obtain ⟨c0,c1,c2,c3,c4,f0,f1,f3,f4⟩:=Zk hm;have hpl:=ok.place hb;have hvl:va.length=D.a.length:=hm.ta.len;obtain ⟨v,hv⟩:∃ v,va[D.place]?=some v:=⟨_,List.getElem?_eq_getElem (by omega)⟩;have hr:=hm.ta.row _ _ _ hv (List.getElem?_eq_getElem hpl);have hgd:D.a.getD D.place []=D.a[D.place]:=by rw [List.getD_eq_getElem?_getD,List.getElem?_eq_getElem hpl];rfl
 rw [<- hgd] at hr;rcases hm.tb with ⟨h,_⟩|⟨_,rfl,hg,htb⟩
 ·exact absurd h hb
 have hcell:∀ W,(Blk W g0 289 va.toArray)->W.cell? ⟨g0,D.place,none⟩=some v/\W.frozen? ⟨g0,D.place,none⟩=false:=fun W hB=>⟨by rw [hB.cell];simpa using hv,hB.free _⟩;obtain ⟨d0,d1⟩:=hcell w hm.ta.blk
 have htot:D.b.flatten.length+(D.a.getD D.place []).length<=1000000:=by
  have h1:=Jw D.a (D.a.getD D.place []) (by rw [hgd];exact List.getElem_mem hpl);have h2:=ok.n;omega
 have hdr:Bl w w.drew:=(Below.refl _ _).drew;have hmd:=hm.later hdr;have htbd:=htb.later hdr
 have HPUT:=jY (Us g1 vb D.b v (D.a.getD D.place []) w.drew htbd hm.sep.right (ok.b hb) (hr.far (S:=fun _=>False) (Far.of_below hdr) fun _ _ h=>h) (fun u hu k hk hk2=>Sep.apart hm.sep (List.mem_of_getElem? hv) hu hk2 hk)
  (ok.fine _ (.inl (by rw [hgd];exact List.getElem_mem hpl))) htot)
 have hal:=Zm ok.a;have hpl2:(D.place:Int)<D.a.length:=by omega
 have hgp:p≠g0:=fun e=>by have h1:=hm.dict;rw [e] at h1;exact absurd (h1.ty hm.ta.blk) (by decide)
 have hgp':g0≠p:=fun e=>hgp e.symm;have HMID:=fun w1 hP=>jY (Jp hmd hb (w1:=w1) hP);have HON:=fun vb' w1 hm1 hI hF hl=>jY (Went.since hdr (Fw (vb':=vb') (A1:=some ⟨g1,0,none⟩) (seed:=seed) hf hb (w:=w.drew) (w1:=w1) hm1 hI hF hl));have HLAST:=fun vb' w1 hm1 hI hF hl=>jY (Went.since hdr (Mp (vb':=vb') (A1:=some ⟨g1,0,none⟩) (seed:=seed) hf hb (w:=w.drew) (w1:=w1) hm1 hI hF hl));have HC:=fun W hB=>jY (hcell W hB);clear hm hf hc hmd htbd htb hr hv hcell hvl
 go_enter Tryz.func210,Tryz.ntmps210
 go_wp2
 go_still_tail 13,(by kernel_rfl)
 change wpList _ _ _ _ _ w.drew;go_wp2_with fail;refine HPUT.out.mono ?_;rintro e w1 ⟨rfl,hP⟩;obtain ⟨vb',hm1,hI,hF⟩:=(HMID _ hP).out;obtain ⟨k0,k1,k2,k3,k4,l0,l1,l3,l4⟩:=Zk hm1;obtain ⟨e0,e1⟩:=(HC _ hm1.ta.blk).out;have HON':=HON vb' w1 hm1 hI hF;have HLAST':=HLAST vb' w1 hm1 hI hF;simp only [Y3] at k1;clear HON HLAST HC HMID HPUT hm1 hI hF hP hgd
 by_cases hl:D.place+1=D.a.length
 ·have hl2:(D.place:Int)+1=D.a.length:=by omega
  have HL:=HLAST' hl;clear HON' HLAST' hl;have hl3:=jY hl2;have hl4:((D.place:Int)+1==D.a.length)=true:=by rw [hl2];simp
  clear hl2;go_wp2
  go_quiet (fail)
  go_wp2;go_returns;exact ⟨rfl,HL.out.later ⟨rfl,rfl,rfl,Nat.le_refl _,fun _ _=>rfl⟩⟩
 ·have hl2:((D.place:Int)+1==D.a.length)=false:=by rw [beq_eq_false_iff_ne];omega
  have HL:=HON' hl;clear HON' HLAST' hl;go_wp2
  go_quiet (fail)
  go_wp2;go_returns;exact ⟨rfl,HL.out.later ⟨rfl,rfl,rfl,Nat.le_refl _,fun _ _=>rfl⟩⟩
end
end Go.Proofs.YtmehfohpjigmmaaGreatDoor.Dc

/- Texts of one kind in one: SpRef, SpWith, SpRefDel. -/
import Derived.Test.YtcklcmafohlflaaGreatDoorQZRef33
set_option maxRecDepth 200000
set_option maxHeartbeats 8000000
namespace Go.Proofs.YtcklcmafohlflaaGreatDoor
open Zc (Ent Ext KeepC Ym Z9 Zg Xg Zx Zb Zv Yo Y5 Ze Zz Z4 Zd)
open Go.RowKit Go.Shelf Sk
attribute [local go_sem] Oper.semAt_some
abbrev Jn:TypeId:=34
abbrev V0:TypeId:=53
abbrev v2w:TypeId:=58
structure Rt extends It where
 r:Nat
def Qo(x:Rt):List Value:=[.string x.key,.pointer (some ⟨x.r,0,none⟩),.int .i64 x.uc,.int .i64 x.ua]
def Yw(R:List Rt):List Value:=R.flatMap Qo
def itr(R:List Rt):List It:=R.map Rt.toIt
theorem z0x(a b:List Rt):Yw (a++b)=Yw a++Yw b:=by simp [Yw]
theorem y0t(R:List Rt):(Yw R).length=R.length*4:=by
 unfold Yw
 induction R with
 | nil=>rfl
 | cons a r ih=>rw [List.flatMap_cons,lAh,ih];simp [Qo];omega
theorem On:∀ (R:List Rt) (i:Nat) (x:Rt),R[i]?=some x->(Yw R)[i*4]?=some (.string x.key)/\(Yw R)[i*4+1]?=some (.pointer (some ⟨x.r,0,none⟩))/\(Yw R)[i*4+2]?=some (.int .i64 x.uc)/\(Yw R)[i*4+3]?=some (.int .i64 x.ua)
 | [],i,x,h=>by simp at h
 | a :: r,0,x,h=>by
   simp at h;subst h;exact ⟨rfl,rfl,rfl,rfl⟩
 | a :: r,i+1,x,h=>by
   have h2:=On r i x (by simpa using h);unfold Yw at *;rw [List.flatMap_cons,show (i+1)*4=i*4+4 by omega];have hl:(Qo a).length=4:=rfl;refine ⟨?_,?_,?_,?_⟩
   ·rw [List.getElem?_append_right (by omega),hl];exact h2.1
   ·rw [List.getElem?_append_right (by omega),hl,show i*4+4+1-4=i*4+1 by omega];exact h2.2.1
   ·rw [List.getElem?_append_right (by omega),hl,show i*4+4+2-4=i*4+2 by omega];exact h2.2.2.1
   ·rw [List.getElem?_append_right (by omega),hl,show i*4+4+3-4=i*4+3 by omega];exact h2.2.2.2
def OwnR(W:World)(n0:Nat)(v:Value)(R:List Rt):Prop:=W.ownsRow n0 V0 4 v R.length (Yw R)
structure RefIn (W:World) (rp:Nat) (rv:Value) (en mn:Int) (sd:Nat) (mx:Int) (R:List Rt):Prop where
 blk:Blk W rp Jn #[rv,.int .i64 en,.int .i64 mn,.int .u32 sd,.int .i64 mx]
 row:OwnR W 0 rv R
 set:∀ x∈R,RefC W x.r x.E (Z6 en 200) (Z6 mn 64) x.isL
 rs:(R.map Rt.r).Nodup
def z8x(rp:Nat)(rv:Value)(R:List Rt)(k:Nat):Prop:=k=rp\/rv.ownBlock=some k\/∃ x∈R,k=x.r
def RefSp(W:World)(rp:Nat)(en mn:Int)(sd:Nat)(mx:Int)(R:List Rt)(S:Nat->Prop):Prop:=∃ rv,RefIn W rp rv en mn sd mx R/\R.length<=600/\∀ k,S k↔z8x rp rv R k
def RefNow(w:World)(rp:Nat)(en mn:Int)(sd:Nat)(mx:Int)(S:Nat->Prop)(R':List Rt)(w':World):Prop :=
 ∃ S',RefSp w' rp en mn sd mx R' S'/\(∀ k,S' k->S k\/w.heap.size<=k)/\Far S w w'
def z8y:List TypeId:=[Jn,V0,v2w]
section
variable {W W' w w' w1 w2:World} {rp n0 n1 sd:Nat} {rv v:Value} {en mn mx:Int} {R R':List Rt} {S S1:Nat->Prop} {x:Rt}
theorem OwnR.form(h:OwnR W n0 v R):∃ A cap,v=.slice A R.length cap/\R.length<=cap/\cap<=maxLen:=by
 rcases h.2 with ⟨rfl,h0⟩|⟨g,cap,cur,rfl,_,hg,hl,hm,_⟩
 ·exact ⟨none,0,by rw [h0],by omega,by unfold maxLen;omega⟩
 ·exact ⟨some ⟨g,0,none⟩,cap,rfl,by omega,hm⟩
theorem OwnR.blk(h:OwnR W n0 v R){k:Nat}(hk:v.ownBlock=some k):∃ c,Blk W k V0 c:=by
 rcases h.2 with ⟨rfl,_⟩|⟨g,cap,cur,rfl,_,hg,_⟩
 ·cases hk
 ·cases hk
  exact ⟨cur,hg⟩
theorem OwnR.cells(h:OwnR W n0 v R){i:Nat}(hi:R[i]?=some x):∃ g cap,v=.slice (some ⟨g,0,none⟩) R.length cap/\W.cell? ⟨g,i*4,none⟩=some (.string x.key)/\W.cell? ⟨g,i*4+1,none⟩=some (.pointer (some ⟨x.r,0,none⟩))/\W.cell? ⟨g,i*4+2,none⟩=some (.int .i64 x.uc)/\W.cell? ⟨g,i*4+3,none⟩=some (.int .i64 x.ua):=by
 obtain ⟨q1,q2,q3,q4⟩:=On R i x hi;have hl:=(lAb.1 hi).1;have hcl:=y0t R;rcases h.2 with ⟨rfl,h0⟩|⟨g,cap,cur,rfl,_⟩
 ·omega
 ·refine ⟨g,cap,rfl,?_,?_,?_,?_⟩
  ·rw [World.ownsRow.cellAt h (i*4) (by omega)];exact q1
  ·rw [World.ownsRow.cellAt h (i*4+1) (by omega)];exact q2
  ·rw [World.ownsRow.cellAt h (i*4+2) (by omega)];exact q3
  ·rw [World.ownsRow.cellAt h (i*4+3) (by omega)];exact q4
theorem RefIn.kind(h:RefIn W rp rv en mn sd mx R){k:Nat}(hk:z8x rp rv R k):∃ t c,Blk W k t c/\t∈z8y:=by
 rcases hk with rfl|hk|⟨x,hx,rfl⟩
 ·exact ⟨_,_,h.blk,by simp [z8y]⟩
 ·obtain ⟨c,hc⟩:=h.row.blk hk;exact ⟨_,_,hc,by simp [z8y]⟩
 ·obtain ⟨a,c,hc⟩:=(h.set x hx).cells;exact ⟨_,_,hc,by simp [z8y]⟩
theorem RefSp.kind(h:RefSp W rp en mn sd mx R S){k:Nat}(hk:S k):∃ t c,Blk W k t c/\t∈z8y:=by
 obtain ⟨rv,h1,_,h3⟩:=h;exact h1.kind ((h3 k).1 hk)
theorem RefSp.lt(h:RefSp W rp en mn sd mx R S){k:Nat}(hk:S k):k<W.heap.size:=by
 obtain ⟨t,c,hc,_⟩:=h.kind hk;exact hc.lt
theorem RefSp.no(h:RefSp W rp en mn sd mx R S){j t:Nat}{c:Array Value}(hj:Blk W j t c)(ht:t ∉ z8y):¬ S j:=fun hs=>by
 obtain ⟨t',c',hc,ht'⟩:=h.kind hs;have e:=Option.some.inj (hc.symm.trans hj)
 injection e with _ e2
 exact ht (e2 ▸ ht')
theorem OwnR.keep(h:OwnR W n0 v R)(hb:∀ k,v.ownBlock=some k->W'.heap[k]?=W.heap[k]?):OwnR W' n0 v R:=by
 rcases h.2 with ⟨rfl,h0⟩|⟨g,cap,cur,rfl,hb0,hg,hx⟩
 ·exact ⟨h.1,.inl ⟨rfl,h0⟩⟩
 ·exact ⟨h.1,.inr ⟨g,cap,cur,rfl,hb0,(hb g rfl).trans hg,hx⟩⟩
theorem OwnR.mono(h:OwnR W n0 v R)(hn:n1<=n0):OwnR W n1 v R:=by
 rcases h.2 with ⟨rfl,h0⟩|⟨g,cap,cur,rfl,hb,hx⟩
 ·exact ⟨h.1,.inl ⟨rfl,h0⟩⟩
 ·exact ⟨h.1,.inr ⟨g,cap,cur,rfl,lAe hn hb,hx⟩⟩
theorem OwnR.later(h:OwnR W n0 v R)(hb:Bl W W'):OwnR W' n0 v R:=h.keep fun k hk=>by
 obtain ⟨c,hc⟩:=h.blk hk;exact hb.block k hc.lt
theorem OwnR.mono0(h:OwnR W n0 v R):OwnR W 0 v R:=by
 rcases h.2 with ⟨rfl,h0⟩|⟨g,cap,cur,rfl,_,hx⟩
 ·exact ⟨h.1,.inl ⟨rfl,h0⟩⟩
 ·exact ⟨h.1,.inr ⟨g,cap,cur,rfl,Nat.zero_le _,hx⟩⟩
theorem RefIn.far(h:RefIn W rp rv en mn sd mx R)(hf:Far S1 W W')(hd:∀ k,z8x rp rv R k->¬ S1 k)(h48:∀ k cur,Blk W k 94 cur->¬ S1 k):RefIn W' rp rv en mn sd mx R :=
 ⟨hf.blk h.blk (hd _ (.inl rfl)),h.row.keep fun k hk=>by
   obtain ⟨c,hc⟩:=h.row.blk hk
   exact hf.block k hc.lt (hd k (.inr (.inl hk))),fun x hx=>(h.set x hx).far hf (hd _ (.inr (.inr ⟨x,hx,rfl⟩))) h48,h.rs⟩
theorem RefSp.far(h:RefSp W rp en mn sd mx R S)(hf:Far S1 W W')(hd:∀ k,S k->¬ S1 k)(h48:∀ k cur,Blk W k 94 cur->¬ S1 k):RefSp W' rp en mn sd mx R S:=by
 obtain ⟨rv,h1,h2,h3⟩:=h;exact ⟨rv,h1.far hf (fun k hk=>hd k ((h3 k).2 hk)) h48,h2,h3⟩
theorem RefSp.later(h:RefSp W rp en mn sd mx R S)(hb:Bl W W'):RefSp W' rp en mn sd mx R S:=h.far (S1:=fun _=>False) (Far.of_below hb) (fun _ _ h=>h) fun _ _ _ h=>h
theorem RefNow.same(h:RefSp w rp en mn sd mx R S)(hb:Bl w w'):RefNow w rp en mn sd mx S R w':=⟨S,h.later hb,fun _ h=>.inl h,Far.of_below hb⟩
theorem RefNow.later(h:RefNow w rp en mn sd mx S R w1)(hb:Bl w1 w2):RefNow w rp en mn sd mx S R w2:=by
 obtain ⟨S',h1,h2,h3⟩:=h;exact ⟨S',h1.later hb,h2,h3.then_below hb⟩
end
def atR(R:List Rt)(k:ByteArray):Int:=match R.findIdx? (fun x=>decide (x.key=k)) with
 | some i=>i
 | none=>-1
theorem z6o{R:List Rt}{k:ByteArray}(h:∀ x∈R,x.key≠k):atR R k=-1:=by
 unfold atR;rw [List.findIdx?_eq_none_iff.2 fun x hx=>by simpa using h x hx]
theorem x1k{R:List Rt}{k:ByteArray}{i:Nat}{x:Rt}(hx:R[i]?=some x)(hk:x.key=k)(hno:∀ j y,j<i->R[j]?=some y->y.key≠k):atR R k=i:=by
 unfold atR;obtain ⟨hi,he⟩:=lAb.1 hx
 rw [List.findIdx?_eq_some_iff_getElem.2 ⟨hi,by rw [he];simpa using hk,fun j hj=>by
  have:=hno j R[j] hj (lAa (by omega))
  simpa using this⟩]
theorem Ge{w:World}{rp sd:Nat}{en mn mx:Int}{R:List Rt}{S:Nat->Prop}(h:RefSp w rp en mn sd mx R S)(k:ByteArray) :
 Calls Tryz.prog 13 #[.pointer (some ⟨rp,0,none⟩),.string k] w fun e w'=>e=.returned (.int .i64 (atR R k))/\w'=w:=by
 obtain ⟨rv,h1,h2,_⟩:=h;have hO:=h1.row;have c0:=h1.blk.cell 0;simp at c0;clear h1;obtain ⟨A,cap,rfl,_,_⟩:=hO.form;have HO:=jY hO;clear hO
 go_enter Tryz.func13,Tryz.ntmps13
 go_wp2
 go_loopw [5] (fun i wr=>∃ (j:Nat),i=.int .i64 j/\j<=R.length/\wr=w/\∀ l x,l<j->R[l]?=some x->x.key≠k) (fun i _=>R.length-(intOf i).toNat)
 case atStart=>exact ⟨0,rfl,by omega,rfl,fun j x hj=>by omega⟩
 case round =>
  obtain ⟨j,rfl,hj,rfl,hno⟩:=hrel
  by_cases hlt:j<R.length
  ·have hx:R[j]?=some R[j]:=lAa hlt;generalize R[j]=x at *;obtain ⟨g,c',e1,g0,_⟩:=HO.out.cells hx
   injection e1 with e1 _ e2
   subst e1;subst e2;have hj2:(j:Int)<R.length:=by omega
   by_cases he:x.key=k
   ·have HW:=jY (x1k hx he hno);have hbeq:(x.key.toList==k.toList)=true:=by rw [he];simp
    clear hno hx he;go_wp2_with fail;go_returns;exact ⟨by rw [HW.out];rfl,rfl⟩
   ·have hbeq:(x.key.toList==k.toList)=false:=by
     rw [Bool.eq_false_iff];intro h;exact he (V9 (by simpa using h))
    have HNO:=jY (show ∀ l y,l<j+1->R[l]?=some y->y.key≠k from fun l y hl hy=>by
     by_cases e:l=j
     ·subst e;rw [hx] at hy;cases hy;exact he
     ·exact hno l y (by omega) hy)
    clear hno hx he;go_wp2_with fail;exact ⟨⟨j+1,by go_num,hlt,trivial,HNO.out⟩,by simp [intOf];omega⟩
  ·obtain rfl:j=R.length:=by omega
   have HW:=jY (z6o (R:=R) (k:=k) fun x hx=>by
    obtain ⟨l,hl⟩:=List.mem_iff_getElem?.1 hx
    exact hno l x (lAb.1 hl).1 hl)
   clear hno;go_wp2;go_returns;exact ⟨by rw [HW.out];rfl,rfl⟩
def ltB(a b:ByteArray):Bool:=decide (a.data.toList<b.data.toList)
def Vp(k:ByteArray)(x:Rt):List Rt:=if x.key=k then [] else [x]
def Qz(k:ByteArray)(X:List Rt)(o:List Rt × Bool)(x:Rt):List Rt × Bool :=
 ((if !o.2&&ltB k x.key then o.1++X else o.1)++Vp k x,o.2 || ltB k x.key)
def Un(k:ByteArray)(X R:List Rt):List Rt × Bool:=R.foldl (Qz k X) ([],false)
def Y0(R:List Rt)(k:ByteArray)(X:List Rt):List Rt:=(Un k X R).1++if (Un k X R).2 then [] else X
theorem y1j{k:ByteArray}{X R:List Rt}{j:Nat}{x:Rt}(h:R[j]?=some x):Un k X (R.take (j+1))=Qz k X (Un k X (R.take j)) x:=by
 obtain ⟨hj,rfl⟩:=lAb.1 h;unfold Un;rw [lAf hj,List.foldl_append];rfl
def XsAt(W:World)(v:Value)(X:List Rt):Prop:=(X=[]/\v=.slice none 0 0)\/∃ x b c,X=[x]/\v=.slice (some ⟨b,0,none⟩) 1 c/\Blk W b V0 #[.string x.key,.pointer (some ⟨x.r,0,none⟩),.int .i64 x.uc,.int .i64 x.ua]
section
variable {W W':World} {v r:Value} {X L:List Rt} {n0:Nat} {x:Rt}
theorem XsAt.later(h:XsAt W v X)(hb:Bl W W'):XsAt W' v X:=by
 rcases h with h|⟨x,b,c,h1,h2,h3⟩
 ·exact .inl h
 ·exact .inr ⟨x,b,c,h1,h2,h3.later hb⟩
theorem XsAt.form(h:XsAt W v X):∃ A n c,v=.slice A n c:=by
 rcases h with ⟨_,rfl⟩|⟨x,b,c,_,rfl,_⟩ <;> exact ⟨_,_,_,rfl⟩
theorem XsAt.len(h:XsAt W v X):X.length<=1:=by
 rcases h with ⟨rfl,_⟩|⟨x,b,c,rfl,_⟩ <;> simp
theorem v1o:(Tryz.prog.info? V0).map (fun i=>(i.zero,i.size,i.bytes))=some (some (.agg #[.string ⟨#[]⟩,.pointer none,.int .i64 0,.int .i64 0]),4,40):=by kernel_rfl
theorem Pc(hr:OwnR W n0 r L)(hx:XsAt W v X)(hl:L.length<=1000000)(hn:n0<=W.heap.size) :
 ∃ v' W',(Builtin.append_ #[32,32] 32 #[r,v]).run Tryz.prog W=.ok v' W'/\OwnR W' n0 v' (L++X)/\W.grownBy W' r.ownBlock:=by
 obtain ⟨i0,hi0,hz0,hz1,hz2⟩:=info_parts v1o;rcases hx with ⟨rfl,rfl⟩|⟨x,b,c,rfl,rfl,hB⟩
 ·exact ⟨r,W,run_append_owned_none (P:=Tryz.prog) W n0 32 32 V0 i0 4 Tryz.underlying32 hi0 r _ _ hr,by rw [List.append_nil];exact hr,⟨rfl,rfl,rfl,lAd _,fun _ _ _=>rfl⟩⟩
 ·obtain ⟨v',w',hrun,r1,r2,r3⟩:=run_append_own (P:=Tryz.prog) W n0 32 32 V0 i0 _ 4 40 Tryz.underlying32 hi0 hz0 hz1 hz2 rfl (by decide) r _ _ hr ⟨b,0,none⟩ 1 c (Qo x) rfl
   (fun j u hj=>by
     match j,hj with
     | 0,hj=>simp [Qo] at hj;subst hj;exact hB.cell 0
     | 1,hj=>simp [Qo] at hj;subst hj;exact hB.cell 1
     | 2,hj=>simp [Qo] at hj;subst hj;exact hB.cell 2
     | 3,hj=>simp [Qo] at hj;subst hj;exact hB.cell 3
     | j+4,hj=>simp [Qo] at hj)
   (by simp [Qo,Value.oneCell']) (by unfold maxLen;omega) (by omega) hn
  refine ⟨v',w',hrun,?_,r2⟩;unfold OwnR;rw [z0x,lAh,show Yw [x]=Qo x by simp [Yw]];exact r1
theorem z0u(W:World)(x:Rt):XsAt (W.alloc (.cells #[.string x.key,.pointer (some ⟨x.r,0,none⟩),.int .i64 x.uc,.int .i64 x.ua] V0)) (.slice (some ⟨W.heap.size,0,none⟩) 1 1) [x] :=
 .inr ⟨x,_,1,rfl,rfl,Blk.new W V0 _⟩
end
theorem y1k(k:ByteArray)(X R:List Rt):Un k X (R.take 0)=([],false):=rfl
theorem D8{R X:List Rt}{v xv:Value}{n0:Nat}(k:ByteArray)(hk:k.size<=281474976710656)(hR:R.length<=1000)(hz:∀ x∈R,x.key.size<=281474976710656)(w:World)(hv:OwnR w n0 v R)(hx:XsAt w xv X) :
 Calls Tryz.prog 59 #[v,.string k,xv] w fun e w'=>∃ u,e=.returned u/\OwnR w' w.heap.size u (Y0 R k X)/\Bl w w':=by
 have HL:=fun x (hx:x∈R) W=>jY (Cn k x.key hk (hz x hx) W)
 have HV:=jY (fun W (hb:Bl w W)=>show OwnR W n0 v R from hv.keep fun b hb2=>by
  obtain ⟨c,hc⟩:=hv.blk hb2
  exact hb.block b hc.lt)
 have HX:=jY (fun W (hb:Bl w W)=>hx.later hb);have hX1:=hx.len;obtain ⟨A,cap,rfl,_,_⟩:=hv.form;obtain ⟨XA,Xn,Xc,rfl⟩:=hx.form
 have HLT:Hid (∀ i (h:i<R.length),∃ g,A=some ⟨g,0,none⟩/\g<w.heap.size):=jY fun i h=>by
  obtain ⟨g,c',h1,h2,_⟩:=hv.cells (lAa h)
  injection h1 with h1 _ _
  exact ⟨g,h1,World.block_lt_of_cell? w ⟨g,_,none⟩ h2⟩
 clear hv hx hz
 go_enter Tryz.func59,Tryz.ntmps59
 go_wp2
 go_loopw [7,8,9] (fun u d i wr=>∃ (j:Nat),i=.int .i64 j/\j<=R.length/\d=.bool (Un k X (R.take j)).2/\OwnR wr w.heap.size u (Un k X (R.take j)).1/\(Un k X (R.take j)).1.length<=2*j/\Bl w wr) (fun _ _ i _=>R.length-(intOf i).toNat)
 case atStart=>exact ⟨0,rfl,by omega,rfl,⟨rfl,.inl ⟨rfl,rfl⟩⟩,by rw [y1k];simp,Below.refl _ _⟩
 case round =>
  obtain ⟨j,rfl,hj,rfl,hO,hlen,hb⟩:=hrel
  by_cases hlt:j<R.length
  ·have hxj:R[j]?=some R[j]:=lAa hlt;have HLx:=HL _ (List.getElem_mem hlt);have HNX:=jY (y1j (k:=k) (X:=X) hxj);generalize R[j]=x at *;obtain ⟨g,c',e1,g0,g1,g2,g3⟩:=(HV.out wr hb).cells hxj
   injection e1 with e1 _ e2
   subst e1;subst e2;have hj2:(j:Int)<R.length:=by omega
   generalize Un k X (R.take j)=st at *;obtain ⟨o,dn⟩:=st;simp only at hO hlen ⊢
   by_cases he:x.key=k
   ·have hkk:(x.key=k):=he;have hbeq:(x.key.toList==k.toList)=true:=by rw [he];simp
    have hon:Vp k x=[]:=if_pos he;clear he hkk
    cases dn with
    | true =>
      have HN2:Hid (Un k X (R.take (j+1))=(o++Vp k x,true)):=by rw [HNX.out];rfl
      have HO1:=jY hO;have HB1:=jY hb;clear hO hb HNX HLx HX;go_wp2_with fail;refine ⟨⟨j+1,by go_num,hlt,by rw [HN2.out],?_,?_,HB1.out⟩,by simp [intOf];omega⟩
      ·rw [HN2.out,hon,List.append_nil];exact HO1.out
      ·rw [HN2.out,hon,List.append_nil];simp;omega
    | false =>
      cases hlB:decide (k.data.toList<x.key.data.toList) with
      | true =>
        rw [hlB] at HLx;have HN2:Hid (Un k X (R.take (j+1))=((o++X)++Vp k x,true)):=by rw [HNX.out];unfold Qz ltB;rw [hlB];rfl
        have HO0:=jY hO;have HB0:=jY hb;clear hO hb HNX hlB;go_wp2_with fail;refine (HLx wr).out.mono ?_;rintro e w4 ⟨rfl,hb4⟩;have hb5:=HB0.out.trans (hb4.mono HB0.out.size);have hO5:OwnR w4 w.heap.size u7 o:=HO0.out.keep fun b hb2=>hb4.block b (HO0.out.blk hb2).choose_spec.lt;obtain ⟨v5,W5,hrun5,hO6,hg5⟩:=Pc hO5 (HX.out w4 hb5) (by omega) hb5.size;have hb6:=hb5.grown hg5 hb5.size (fun b e=>(World.ownsRow.lt hO5 b e).1);obtain ⟨_,_,e1,g0,g1,g2,g3⟩:=(HV.out W5 hb6).cells hxj
        injection e1 with e1 _ e2
        injection e1 with e1
        injection e1 with e1
        subst e1;subst e2;have HO1:=jY hO6;have HB1:=jY hb6;clear hO5 hb5 hb4 hg5 hb6 hO6 HO0 HB0 HLx
        go_wp2_with (
         at_builtin
         refine Pk.Zw rfl _ _ 32 32 rfl rfl rfl hrun5 ?_)
        refine ⟨⟨j+1,by go_num,hlt,by rw [HN2.out],?_,?_,HB1.out⟩,by simp [intOf];omega⟩
        ·rw [HN2.out,hon,List.append_nil];exact HO1.out
        ·rw [HN2.out,hon,List.append_nil];simp;omega
      | false =>
        rw [hlB] at HLx;have HN2:Hid (Un k X (R.take (j+1))=(o++Vp k x,false)):=by rw [HNX.out];unfold Qz ltB;rw [hlB];rfl
        have HO0:=jY hO;have HB0:=jY hb;clear hO hb HNX hlB;go_wp2_with fail;refine (HLx wr).out.mono ?_;rintro e w4 ⟨rfl,hb4⟩;have hb5:=HB0.out.trans (hb4.mono HB0.out.size);have hO5:OwnR w4 w.heap.size u7 o:=HO0.out.keep fun b hb2=>hb4.block b (HO0.out.blk hb2).choose_spec.lt;obtain ⟨_,_,e1,g0,g1,g2,g3⟩:=(HV.out w4 hb5).cells hxj
        injection e1 with e1 _ e2
        injection e1 with e1
        injection e1 with e1
        subst e1;subst e2;have HO1:=jY hO5;have HB1:=jY hb5;clear hO5 hb5 hb4 HO0 HB0 HLx HX;go_wp2_with fail;refine ⟨⟨j+1,by go_num,hlt,by rw [HN2.out],?_,?_,HB1.out⟩,by simp [intOf];omega⟩
        ·rw [HN2.out,hon,List.append_nil];exact HO1.out
        ·rw [HN2.out,hon,List.append_nil];simp;omega
   ·have hkk:¬ (x.key=k):=he
    have hbeq:(x.key.toList==k.toList)=false:=by
     rw [Bool.eq_false_iff];intro h;exact he (V9 (by simpa using h))
    have hon:Vp k x=[x]:=if_neg he;clear he hkk
    cases dn with
    | true =>
      have HN2:Hid (Un k X (R.take (j+1))=(o++Vp k x,true)):=by rw [HNX.out];rfl
      have HO1:=jY hO;have HB1:=jY hb;clear hO hb HNX HLx HX;obtain ⟨v7,W7,hrun7,hO8,hg7⟩:=Pc (HO1.out.keep (W':=wr.alloc (.cells #[.string x.key,.pointer (some ⟨x.r,0,none⟩),.int .i64 x.uc,.int .i64 x.ua] V0)) fun b hb2=>(Z0 _ _).block b (HO1.out.blk hb2).choose_spec.lt) (z0u wr x) (by first|omega|(simp;omega)) (lAe HB1.out.size (Z0 _ _).size);have hb8:=(HB1.out.alloc HB1.out.size (.cells #[.string x.key,.pointer (some ⟨x.r,0,none⟩),.int .i64 x.uc,.int .i64 x.ua] V0)).grown hg7 (lAe HB1.out.size (Z0 _ _).size) (fun b e=>(World.ownsRow.lt HO1.out b e).1);have HO8:=jY hO8;have HB8:=jY hb8;clear hO8 hb8 hg7
      go_wp2_with (first
       | (at_builtin;refine Pk.Zw rfl _ _ 32 32 rfl rfl rfl hrun7 ?_))
      refine ⟨⟨j+1,by go_num,hlt,by rw [HN2.out],?_,?_,HB8.out⟩,by simp [intOf];omega⟩
      ·rw [HN2.out,hon];exact HO8.out
      ·rw [HN2.out,hon];simp;omega
    | false =>
      cases hlB:decide (k.data.toList<x.key.data.toList) with
      | true =>
        rw [hlB] at HLx;have HN2:Hid (Un k X (R.take (j+1))=((o++X)++Vp k x,true)):=by rw [HNX.out];unfold Qz ltB;rw [hlB];rfl
        have HO0:=jY hO;have HB0:=jY hb;clear hO hb HNX hlB;go_wp2_with fail;refine (HLx wr).out.mono ?_;rintro e w4 ⟨rfl,hb4⟩;have hb5:=HB0.out.trans (hb4.mono HB0.out.size);have hO5:OwnR w4 w.heap.size u7 o:=HO0.out.keep fun b hb2=>hb4.block b (HO0.out.blk hb2).choose_spec.lt;obtain ⟨v5,W5,hrun5,hO6,hg5⟩:=Pc hO5 (HX.out w4 hb5) (by omega) hb5.size;have hb6:=hb5.grown hg5 hb5.size (fun b e=>(World.ownsRow.lt hO5 b e).1);obtain ⟨_,_,e1,g0,g1,g2,g3⟩:=(HV.out W5 hb6).cells hxj
        injection e1 with e1 _ e2
        injection e1 with e1
        injection e1 with e1
        subst e1;subst e2;have HO1:=jY hO6;have HB1:=jY hb6;clear hO5 hb5 hb4 hg5 hb6 hO6 HO0 HB0 HLx;obtain ⟨v7,W7,hrun7,hO8,hg7⟩:=Pc (HO1.out.keep (W':=W5.alloc (.cells #[.string x.key,.pointer (some ⟨x.r,0,none⟩),.int .i64 x.uc,.int .i64 x.ua] V0)) fun b hb2=>(Z0 _ _).block b (HO1.out.blk hb2).choose_spec.lt) (z0u W5 x) (by first|omega|(simp;omega)) (lAe HB1.out.size (Z0 _ _).size);have hb8:=(HB1.out.alloc HB1.out.size (.cells #[.string x.key,.pointer (some ⟨x.r,0,none⟩),.int .i64 x.uc,.int .i64 x.ua] V0)).grown hg7 (lAe HB1.out.size (Z0 _ _).size) (fun b e=>(World.ownsRow.lt HO1.out b e).1);have HO8:=jY hO8;have HB8:=jY hb8;clear hO8 hb8 hg7
        go_wp2_with (first
         | (at_builtin;refine Pk.Zw rfl _ _ 32 32 rfl rfl rfl hrun7 ?_)
         | (at_builtin;refine Pk.Zw rfl _ _ 32 32 rfl rfl rfl hrun5 ?_))
        refine ⟨⟨j+1,by go_num,hlt,by rw [HN2.out],?_,?_,HB8.out⟩,by simp [intOf];omega⟩
        ·rw [HN2.out,hon];exact HO8.out
        ·rw [HN2.out,hon];simp;omega
      | false =>
        rw [hlB] at HLx;have HN2:Hid (Un k X (R.take (j+1))=(o++Vp k x,false)):=by rw [HNX.out];unfold Qz ltB;rw [hlB];rfl
        have HO0:=jY hO;have HB0:=jY hb;clear hO hb HNX hlB;go_wp2_with fail;refine (HLx wr).out.mono ?_;rintro e w4 ⟨rfl,hb4⟩;have hb5:=HB0.out.trans (hb4.mono HB0.out.size);have hO5:OwnR w4 w.heap.size u7 o:=HO0.out.keep fun b hb2=>hb4.block b (HO0.out.blk hb2).choose_spec.lt;obtain ⟨_,_,e1,g0,g1,g2,g3⟩:=(HV.out w4 hb5).cells hxj
        injection e1 with e1 _ e2
        injection e1 with e1
        injection e1 with e1
        subst e1;subst e2;have HO1:=jY hO5;have HB1:=jY hb5;clear hO5 hb5 hb4 HO0 HB0 HLx HX;obtain ⟨v7,W7,hrun7,hO8,hg7⟩:=Pc (HO1.out.keep (W':=w4.alloc (.cells #[.string x.key,.pointer (some ⟨x.r,0,none⟩),.int .i64 x.uc,.int .i64 x.ua] V0)) fun b hb2=>(Z0 _ _).block b (HO1.out.blk hb2).choose_spec.lt) (z0u w4 x) (by first|omega|(simp;omega)) (lAe HB1.out.size (Z0 _ _).size);have hb8:=(HB1.out.alloc HB1.out.size (.cells #[.string x.key,.pointer (some ⟨x.r,0,none⟩),.int .i64 x.uc,.int .i64 x.ua] V0)).grown hg7 (lAe HB1.out.size (Z0 _ _).size) (fun b e=>(World.ownsRow.lt HO1.out b e).1);have HO8:=jY hO8;have HB8:=jY hb8;clear hO8 hb8 hg7
        go_wp2_with (first
         | (at_builtin;refine Pk.Zw rfl _ _ 32 32 rfl rfl rfl hrun7 ?_))
        refine ⟨⟨j+1,by go_num,hlt,by rw [HN2.out],?_,?_,HB8.out⟩,by simp [intOf];omega⟩
        ·rw [HN2.out,hon];exact HO8.out
        ·rw [HN2.out,hon];simp;omega
  ·obtain rfl:j=R.length:=by omega
   rw [List.take_length] at hO hlen ⊢;have HW:=jY (show Y0 R k X=(Un k X R).1++if (Un k X R).2 then [] else X from rfl);generalize Un k X R=st at *;obtain ⟨o,dn⟩:=st;simp only at hO hlen ⊢
   cases dn with
   | true =>
     have HO1:=jY hO;have HB1:=jY hb;clear hO hb;go_wp2_with fail;go_ret;refine ⟨_,rfl,?_,HB1.out⟩;rw [HW.out]
     simpa using HO1.out
   | false =>
     obtain ⟨v5,W5,hrun5,hO6,hg5⟩:=Pc hO (HX.out wr hb) (by omega) hb.size;have hb6:=hb.grown hg5 hb.size (fun b e=>(World.ownsRow.lt hO b e).1);have HO1:=jY hO6;have HB1:=jY hb6;clear hO hb hg5 hb6 hO6
     go_wp2_with (
      at_builtin
      refine Pk.Zw rfl _ _ 32 32 rfl rfl rfl hrun5 ?_)
     go_ret;refine ⟨_,rfl,?_,HB1.out⟩;rw [HW.out];exact HO1.out
def Pr(R:List Rt)(k:ByteArray):List Rt:=R.filter fun x=>decide (x.key≠k)
theorem Ah(x:Rt)(R:List Rt)(k:ByteArray):Pr (x :: R) k=Vp k x++Pr R k:=by
 unfold Pr Vp;rw [List.filter_cons]
 by_cases h:x.key=k <;> simp [h]
theorem z1t(k:ByteArray)(X:List Rt):∀ (R o:List Rt),R.foldl (Qz k X) (o,true)=(o++Pr R k,true)
 | [],o=>by simp [Pr]
 | x :: R,o=>by
   rw [List.foldl_cons,Ah,<- List.append_assoc];exact z1t k X R _
theorem z1u(k:ByteArray)(X:List Rt):∀ (R o:List Rt),((R.foldl (Qz k X) (o,false)).1++if (R.foldl (Qz k X) (o,false)).2 then [] else X).Perm (o++Pr R k++X)
 | [],o=>by simp [Pr]
 | x :: R,o=>by
   rw [List.foldl_cons,Ah]
   cases h:ltB k x.key with
   | true =>
     have e:Qz k X (o,false) x=(o++X++Vp k x,true):=by unfold Qz;rw [h];rfl
     rw [e,z1t];simp only [if_true,List.append_nil];rw [List.append_assoc,List.append_assoc,List.append_assoc];refine List.Perm.append_left o ?_;exact List.perm_append_comm
   | false =>
     have e:Qz k X (o,false) x=(o++Vp k x,false):=by unfold Qz;rw [h];rfl
     rw [e];refine (z1u k X R _).trans ?_;rw [<- List.append_assoc o]
theorem Um(R:List Rt)(k:ByteArray)(X:List Rt):(Y0 R k X).Perm (Pr R k++X):=by
 have:=z1u k X R []
 rw [List.nil_append] at this;exact this
theorem x2r(R:List Rt)(k:ByteArray):itr (Pr R k)=Vx (itr R) k:=by
 unfold itr Pr Vx;rw [List.filter_map];rfl
theorem y1t(R X:List Rt):itr (R++X)=itr R++itr X:=by unfold itr;simp
theorem Ow(R:List Rt)(k:ByteArray)(X:List Rt):(itr (Y0 R k X)).Perm (Vx (itr R) k++itr X):=by
 rw [<- x2r,<- y1t];exact (Um R k X).map _
theorem Oy{R X:List Rt}{k:ByteArray}{x:Rt}(h:x∈Y0 R k X):x∈R\/x∈X:=by
 rcases List.mem_append.1 ((Um R k X).mem_iff.1 h) with h|h
 ·exact .inl ((List.mem_filter.1 h).1)
 ·exact .inr h
theorem y7n(R:List Rt)(k:ByteArray):(Pr R k).length<=R.length:=List.length_filter_le _ _
theorem Cc(R:List Rt)(k:ByteArray)(X:List Rt):(Y0 R k X).length<=R.length+X.length:=by
 rw [(Um R k X).length_eq,lAh]
 have:=y7n R k
 omega
theorem D4{R X:List Rt}{k:ByteArray}(h:(R.map Rt.r).Nodup)(hX:(X.map Rt.r).Nodup)(hd:∀ x∈X,∀ y∈R,y.key≠k->x.r≠y.r):((Y0 R k X).map Rt.r).Nodup:=by
 rw [((Um R k X).map Rt.r).nodup_iff,List.map_append,List.nodup_append];refine ⟨(List.filter_sublist.map _).nodup h,hX,fun a ha b hb e=>?_⟩;obtain ⟨y,hy,rfl⟩:=List.mem_map.1 ha;obtain ⟨x,hx,rfl⟩:=List.mem_map.1 hb;unfold Pr at hy;rw [List.mem_filter] at hy;exact hd x hx y hy.1 (by simpa using hy.2) e.symm
section
variable {w w1 w':World} {rp sd:Nat} {u:Value} {en mn mx:Int} {R R':List Rt} {S:Nat->Prop}
theorem RefSp.put(h:RefSp w rp en mn sd mx R S)(hf:Bl w w1)(hu:OwnR w1 w.heap.size u R')(hl:R'.length<=600)(hs:∀ x∈R',RefC w1 x.r x.E (Z6 en 200) (Z6 mn 64) x.isL)(hrs:(R'.map Rt.r).Nodup)
 (hn:∀ x∈R',S x.r\/w.heap.size<=x.r):RefNow w rp en mn sd mx S R' (w1.setCell ⟨rp,0,none⟩ u):=by
 have h1:=h.later hf;obtain ⟨rv,g,_,hS⟩:=h;obtain ⟨rv',g1,_,_⟩:=h1;have hrp:=g1.blk;have hSrp:S rp:=(hS rp).2 (.inl rfl);have hb2:=hrp.set 0 u;simp only [List.setIfInBounds_toArray,List.set_cons_zero] at hb2;have hfar:Far (fun k=>k=rp) w1 (w1.setCell ⟨rp,0,none⟩ u):=(Far.refl _ _).set _ _ (.inl rfl);refine ⟨z8x rp u R',⟨u,⟨hb2,?_,fun x hx=>?_,hrs⟩,hl,fun k=>Iff.rfl⟩,fun k hk=>?_,?_⟩
 ·refine OwnR.mono0 (hu.keep fun k hk=>?_);obtain ⟨c,hc⟩:=hu.blk hk;refine hfar.block k hc.lt fun e=>?_;subst e;have e:=Option.some.inj (hc.symm.trans hrp)
  injection e with _ e2
  exact absurd e2 (by decide)
 ·refine (hs x hx).far hfar (fun e=>?_) fun k cur hk e=>?_
  ·obtain ⟨a,c,hc⟩:=(hs x hx).cells;rw [e] at hc;have e:=Option.some.inj (hc.symm.trans hrp)
   injection e with _ e2
   exact absurd e2 (by decide)
  ·subst e;have e:=Option.some.inj (hk.symm.trans hrp)
   injection e with _ e2
   exact absurd e2 (by decide)
 ·rcases hk with rfl|hk|⟨x,hx,rfl⟩
  ·exact .inl hSrp
  ·exact .inr (World.ownsRow.lt hu k hk).1
  ·exact hn x hx
 ·exact (Far.of_below hf).set _ _ (.inl hSrp)
theorem RefSp.keys(h:RefSp w rp en mn sd mx R S):∃ rv,Blk w rp Jn #[rv,.int .i64 en,.int .i64 mn,.int .u32 sd,.int .i64 mx]/\OwnR w 0 rv R/\R.length<=600/\(∀ x∈R,RefC w x.r x.E (Z6 en 200) (Z6 mn 64) x.isL)/\(R.map Rt.r).Nodup/\∀ x∈R,S x.r:=by
 obtain ⟨rv,g,h2,hS⟩:=h;exact ⟨rv,g.blk,g.row,h2,g.set,g.rs,fun x hx=>(hS _).2 (.inr (.inr ⟨x,hx,rfl⟩))⟩
theorem z0a(h:RefSp w rp en mn sd mx R S)(hz:∀ x∈R,x.key.size<=281474976710656)(k:ByteArray)(hk:k.size<=281474976710656) :
 Calls Tryz.prog 30 #[.pointer (some ⟨rp,0,none⟩),.string k] w fun e w'=>e=.returned (.bool (decide (0<=atR R k)))/\RefNow w rp en mn sd mx S (Y0 R k []) w':=by
 have HA:=jY (Ge h k);obtain ⟨rv,hb,ho,hl,hs,hrs,hS⟩:=h.keys;have HW:=jY (D8 (X:=[]) k hk (by omega) hz w ho (.inl ⟨rfl,rfl⟩));have HP:=jY (fun w1 u (hb:Bl w w1) (hu:OwnR w1 w.heap.size u (Y0 R k []))=>h.put hb hu (lAe (Cc R k []) (by simpa using hl)) (fun x hx=>(hs x ((Oy hx).elim id fun h=>by cases h)).later hb) (D4 hrs List.nodup_nil fun x hx=>by cases hx) fun x hx=>.inl (hS x ((Oy hx).elim id fun h=>by cases h)));have c0:=hb.cell 0;simp at c0;have HB:=jY hb;generalize atR R k=z at *;clear h hb ho hs hrs hS hz hl
 go_enter Tryz.func30,Tryz.ntmps30
 go_wp2_with fail;refine HA.out.mono ?_;rintro e w1 ⟨rfl,rfl⟩;go_wp2_with fail;refine HW.out.mono ?_;rintro e w2 ⟨u,rfl,hu,hb2⟩;have HN:=jY (HP.out w2 u hb2 hu);obtain ⟨A2,cap2,rfl,_,_⟩:=hu.form;have c2:=(HB.out.later hb2).cell 0;have f2:=(HB.out.later hb2).free 0;simp at c2;clear hu hb2 HP HB HW HA;go_wp2_with fail;go_ret;exact ⟨rfl,HN.out⟩
end
end Go.Proofs.YtcklcmafohlflaaGreatDoor

/- Texts of one kind in one: StOrd, StPivot, StPins. -/
import Derived.Test.YtcklcmafohlflaaGreatDoorQStBase29
set_option maxRecDepth 200000
set_option maxHeartbeats 8000000
namespace Go.Proofs.YtcklcmafohlflaaGreatDoor.St
open Zc
open Go.RowKit Go.Shelf Go.Sort Go.Lib
attribute [local go_sem] Oper.semAt_some
section
variable {recv:Value} {sf:Nat} {sb:Array Value} {blk off a b c cb s:Nat} {d:Array Kt} {w0 W:World}
abbrev cW (W:World) (cb n s:Nat) (os:Array Obj):World:=sortWorld (Value.int .i64) W cb 0 n (one s) os
theorem y2t(hl:Pg recv blk off d.size)(h0:Holds encStr w0 blk off d)(hblk:blk<w0.heap.size)(hW:SW encStr w0 blk off d W)(ha:a<d.size)(hb:b<d.size)
 (hS:Holds (Value.int .i64) W cb 0 (one s)) (hcb:cb<W.heap.size) (hs:s<4611686018427387904) :
 Calls Tryz.prog 177 #[.agg #[Xj recv,Xx sf sb],.int .i64 a,.int .i64 b,.pointer (some ⟨cb,0,none⟩)] W fun e w' =>
  e=.returned (.tuple #[.int .i64 (order2 ltStr d a b s).1,.int .i64 (order2 ltStr d a b s).2.1])/\∃ n os,w'=cW W cb n (order2 ltStr d a b s).2.2 os:=by
 have hl1:=hl (W.alloc (Yn recv sf sb)) d ((hW.alloc _).holds hblk h0 rfl) rfl b a hb ha;have HSU:=jY (fun q=>counter_succ W (Yn recv sf sb) q cb 0 s hS hcb);have HSA:=jY (fun q=>counter_same W (Yn recv sf sb) q cb 0 s hS);obtain ⟨cs,fs⟩:=one_cell hS;clear hl hS hW h0;unfold Yn Xj Xx at *
 go_enter Tryz.func177,Tryz.ntmps177
 cases hlv:ltStr d[b]! d[a]! with
 | true =>
   rw [hlv] at hl1;have e2:order2 ltStr d a b s=(b,a,s+1):=by simp [order2,hlv]
   rw [e2];go_wp2_with fail;refine hl1.mono ?_;rintro e w' ⟨rfl,q,rfl⟩;go_wp2_with fail;go_ret2;exact ⟨rfl,q,_,HSU.out q⟩
 | false =>
   rw [hlv] at hl1;have e2:order2 ltStr d a b s=(a,b,s):=by simp [order2,hlv]
   rw [e2];go_wp2_with fail;refine hl1.mono ?_;rintro e w' ⟨rfl,q,rfl⟩;go_wp2_with fail;go_ret2;exact ⟨rfl,q,_,HSA.out q⟩
theorem Jt{W:World}{cb b o n s:Nat}{os:Array Obj}(hb:b<W.heap.size)(hne:b≠cb):(cW W cb n s os).cell? ⟨b,o,none⟩=W.cell? ⟨b,o,none⟩:=by
 show (sortWorld _ _ _ _ _ _ _).cell? _=_;unfold sortWorld;rw [cell?_grow _ _ _ (by show b<_;rw [size_putRow];exact hb),cell?_putRow_other _ _ _ _ _ _ (.inl hne)];rfl
theorem Ak(hl:Pg recv blk off d.size)(h0:Holds encStr w0 blk off d)(hblk:blk<w0.heap.size)(hW:SW encStr w0 blk off d W)(ha:a<d.size)(hb:b<d.size)(hc:c<d.size)
 (hS:Holds (Value.int .i64) W cb 0 (one s)) (hcb0:w0.heap.size<=cb) (hcb:cb<W.heap.size) (hs:s+3<4611686018427387904) :
 Calls Tryz.prog 155 #[.agg #[Xj recv,Xx sf sb],.int .i64 a,.int .i64 b,.int .i64 c,.pointer (some ⟨cb,0,none⟩)] W fun e w' =>
  e=.returned (.int .i64 (median ltStr d a b c s).1)/\∃ n os,w'=cW W cb n (median ltStr d a b c s).2 os:=by
 have HB:=jY (Vh recv sf sb W);have hW1:=hW.alloc (Yn recv sf sb);have hS1:Holds (Value.int .i64) (W.alloc (Yn recv sf sb)) cb 0 (one s):=Y7 _ hcb hS;have hc1:cb<(W.alloc (Yn recv sf sb)).heap.size:=by simp;omega
 have hz:W.heap.size<(W.alloc (Yn recv sf sb)).heap.size:=by simp
 have HFIN:=jY (fun n t os=>Go.Proofs.sortWorld_alloc (Value.int .i64) W (Yn recv sf sb) cb 0 n (one t) os hcb);have l1:=order2_lt' ltStr d s ha hb;have s1:=order2_swaps' ltStr d a b s;have l2:=order2_lt' ltStr d (order2 ltStr d a b s).2.2 l1.2 hc;have s2:=order2_swaps' ltStr d (order2 ltStr d a b s).2.1 c (order2 ltStr d a b s).2.2
 have STEP:=jY (fun (n:Nat) (os:Array Obj) (t x y:Nat) (hx:x<d.size) (hy:y<d.size) (ht:t<4611686018427387904) =>
  (y2t (sf:=sf) (sb:=sb) hl h0 hblk (hW1.counter cb 0 n t os hcb0) hx hy (holds_sortWorld _ _ cb 0 n (one s) (one t) os hc1 hS1 rfl) (lt_sortWorld _ _ cb 0 n _ os hc1) ht).mono
    fun e w' ⟨he,n',os',hw⟩=>show e=_/\∃ n2 os2,w'=cW (W.alloc (Yn recv sf sb)) cb n2 (order2 ltStr d x y t).2.2 os2 from ⟨he,_,_,hw.trans (sortWorld_on _ _ cb 0 n n' _ _ os os' hc1 rfl)⟩)
 have st0:=STEP.out 0 #[] s a b ha hb (by omega);rw [sortWorld_start _ _ cb 0 _ hS1] at st0;have hm:median ltStr d a b c s=((order2 ltStr d (order2 ltStr d a b s).1 (order2 ltStr d (order2 ltStr d a b s).2.1 c (order2 ltStr d a b s).2.2).1 (order2 ltStr d (order2 ltStr d a b s).2.1 c (order2 ltStr d a b s).2.2).2.2).2.1,(order2 ltStr d (order2 ltStr d a b s).1 (order2 ltStr d (order2 ltStr d a b s).2.1 c (order2 ltStr d a b s).2.2).1 (order2 ltStr d (order2 ltStr d a b s).2.1 c (order2 ltStr d a b s).2.2).2.2).2.2):=rfl;rw [hm];obtain ⟨⟨a1,b1,t1⟩,e1⟩:∃ x,x=order2 ltStr d a b s:=⟨_,rfl⟩;simp only [<- e1] at l1 s1 l2 s2 st0 ⊢;obtain ⟨⟨b2,c2,t2⟩,e2⟩:∃ x,x=order2 ltStr d b1 c t1:=⟨_,rfl⟩;simp only [<- e2] at l2 s2 ⊢;have hne:W.heap.size≠cb:=by omega
 clear hm hl h0 hW hW1 hS hS1;unfold Yn Xj Xx at *
 go_enter Tryz.func155,Tryz.ntmps155
 go_wp2_with fail;refine st0.mono ?_;rintro e w' ⟨rfl,n1,os1,rfl⟩;have c0:=(Jt (n:=n1) (s:=t1) (os:=os1) (o:=0) hz hne).trans HB.out.1;have c1:=(Jt (n:=n1) (s:=t1) (os:=os1) (o:=1) hz hne).trans HB.out.2;go_wp2_with fail;have st1:=STEP.out n1 os1 t1 b1 c l1.2 hc (by omega);rw [<- e2] at st1;refine st1.mono ?_;rintro e w' ⟨rfl,n2,os2,rfl⟩;have c0:=(Jt (n:=n2) (s:=t2) (os:=os2) (o:=0) hz hne).trans HB.out.1;have c1:=(Jt (n:=n2) (s:=t2) (os:=os2) (o:=1) hz hne).trans HB.out.2;go_wp2_with fail;refine (STEP.out n2 os2 t2 a1 b2 l1.1 l2.1 (by omega)).mono ?_;rintro e w' ⟨rfl,n3,os3,rfl⟩;go_wp2_with fail;go_ret;exact ⟨rfl,_,_,HFIN.out _ _ _⟩
theorem y2i(hl:Pg recv blk off d.size)(h0:Holds encStr w0 blk off d)(hblk:blk<w0.heap.size)(hW:SW encStr w0 blk off d W)(ha1:1<=a)(ha2:a+1<d.size)(hsz:d.size<4611686018427387904)
 (hS:Holds (Value.int .i64) W cb 0 (one s)) (hcb0:w0.heap.size<=cb) (hcb:cb<W.heap.size) (hs:s+3<4611686018427387904) :
 Calls Tryz.prog 154 #[.agg #[Xj recv,Xx sf sb],.int .i64 a,.pointer (some ⟨cb,0,none⟩)] W fun e w' =>
  e=.returned (.int .i64 (medianAdjacent ltStr d a s).1)/\∃ n os,w'=cW W cb n (medianAdjacent ltStr d a s).2 os:=by
 have hm:=Ak (sf:=sf) (sb:=sb) hl h0 hblk (hW.alloc (Yn recv sf sb)) (a:=a-1) (b:=a) (c:=a+1) (by omega) (by omega) ha2 (Y7 _ hcb hS) hcb0 (by simp;omega) hs;rw [show ((a-1:Nat):Int)=(a:Int)-1 by omega,show ((a+1:Nat):Int)=(a:Int)+1 by omega] at hm;have HFIN:=jY (fun n t os=>Go.Proofs.sortWorld_alloc (Value.int .i64) W (Yn recv sf sb) cb 0 n (one t) os hcb);clear hl h0 hW hS;unfold medianAdjacent;unfold Yn Xj Xx at *
 go_enter Tryz.func154,Tryz.ntmps154
 go_wp2_with fail;refine hm.mono ?_;rintro e w' ⟨rfl,n,os,rfl⟩;go_wp2_with fail;go_ret;exact ⟨rfl,_,_,HFIN.out _ _ _⟩
end
section
variable {recv:Value} {sf:Nat} {sb:Array Value} {blk off a b:Nat} {d:Array Kt} {W:World}
def pW(recv:Value)(sf:Nat)(sb:Array Value)(W:World):World:=(W.alloc (Yn recv sf sb)).alloc (.cells #[.int .i64 0] 3)
abbrev pv (recv:Value) (sf:Nat) (sb:Array Value) (W:World) (n s:Nat) (os:Array Obj):World:=cW (pW recv sf sb W) (W.heap.size+1) n s os
theorem Ff:(pW recv sf sb W).heap.size=W.heap.size+2:=by unfold pW;simp
theorem z8j:Holds (Value.int .i64) (pW recv sf sb W) (W.heap.size+1) 0 (one 0):=fun j hj=>by
 have:j=0:=by simp at hj;omega
 subst this;unfold pW;exact ⟨by rw [World.cell?_alloc_at _ _ _ _ (by simp)];rfl,World.frozen?_alloc_at _ _ _ _ (by simp)⟩
theorem x5a:pv recv sf sb W 0 0 #[]=pW recv sf sb W:=sortWorld_start _ _ _ 0 _ z8j
theorem Az(n s:Nat)(os:Array Obj):Holds (Value.int .i64) (pv recv sf sb W n s os) (W.heap.size+1) 0 (one s):=holds_sortWorld _ _ _ 0 n (one 0) (one s) os (by rw [Ff];omega) z8j rfl
theorem x5b(hH:Holds encStr W blk off d)(n s:Nat)(os:Array Obj):SW encStr W blk off d (pv recv sf sb W n s os):=(((SW.start hH).alloc _).alloc _).counter _ 0 n s os (by omega)
theorem v3z(n s:Nat)(os:Array Obj):(pv recv sf sb W n s os).cell? ⟨W.heap.size+1,0,none⟩=some (.int .i64 s):=(one_cell (Az n s os)).1
theorem v3x(n s:Nat)(os:Array Obj):(pv recv sf sb W n s os).cell? ⟨W.heap.size,0,none⟩=some (Xj recv):=by
 rw [Jt (by rw [Ff];omega) (by omega)];unfold pW;rw [World.cell?_alloc_past _ _ _ (by simp)];exact (Vh recv sf sb W).1
theorem v3y(n s:Nat)(os:Array Obj):(pv recv sf sb W n s os).cell? ⟨W.heap.size,1,none⟩=some (Xx sf sb):=by
 rw [Jt (by rw [Ff];omega) (by omega)];unfold pW;rw [World.cell?_alloc_past _ _ _ (by simp)];exact (Vh recv sf sb W).2
theorem v0n(n n' s t:Nat)(os os':Array Obj):cW (pv recv sf sb W n s os) (W.heap.size+1) n' t os'=pv recv sf sb W (n+n') t (os++os'):=sortWorld_on _ _ _ 0 n n' _ _ os os' (by rw [Ff];omega) rfl
theorem v0m(n s:Nat)(os:Array Obj):W.heap.size+1<(pv recv sf sb W n s os).heap.size:=lt_sortWorld _ _ _ 0 n _ os (by rw [Ff];omega)
theorem v2n(hl:Pg recv blk off d.size)(hH:Holds encStr W blk off d)(hblk:blk<W.heap.size)(hsz:d.size<4611686018427387904)(n s x:Nat)(os:Array Obj)(h1:1<=x)(h2:x+1<d.size)(hs:s+3<4611686018427387904){p t:Nat}(e:medianAdjacent ltStr d x s=(p,t)) :
 Calls Tryz.prog 154 #[.agg #[Xj recv,Xx sf sb],.int .i64 x,.pointer (some ⟨W.heap.size+1,0,none⟩)] (pv recv sf sb W n s os) fun e w'=>e=.returned (.int .i64 p)/\∃ n os,w'=pv recv sf sb W n t os :=
 (y2i hl hH hblk (x5b hH n s os) h1 h2 hsz (Az n s os) (by omega) (v0m n s os) hs).mono fun _ _ ⟨he,n',os',hw⟩=>⟨by rw [he,e],n+n',os++os',by rw [hw,v0n,e]⟩
theorem v2o(hl:Pg recv blk off d.size)(hH:Holds encStr W blk off d)(hblk:blk<W.heap.size)(n s x y z:Nat)(os:Array Obj)(hx:x<d.size)(hy:y<d.size)(hz:z<d.size)(hs:s+3<4611686018427387904){p t:Nat}(e:median ltStr d x y z s=(p,t)) :
 Calls Tryz.prog 155 #[.agg #[Xj recv,Xx sf sb],.int .i64 x,.int .i64 y,.int .i64 z,.pointer (some ⟨W.heap.size+1,0,none⟩)] (pv recv sf sb W n s os) fun e w'=>e=.returned (.int .i64 p)/\∃ n os,w'=pv recv sf sb W n t os :=
 (Ak hl hH hblk (x5b hH n s os) hx hy hz (Az n s os) (by omega) (v0m n s os) hs).mono fun _ _ ⟨he,n',os',hw⟩=>⟨by rw [he,e],n+n',os++os',by rw [hw,v0n,e]⟩
theorem x2k{s:Nat}(h:(s:Int)=0):hintCode (hintOf s)=1:=by rw [show s=0 by omega];rfl
theorem x2l{s:Nat}(h:(s:Int)=12):hintCode (hintOf s)=2:=by rw [show s=12 by omega];rfl
theorem v0g{s:Nat}(h:(s:Int)≠0)(h2:(s:Int)≠12):hintCode (hintOf s)=0:=by unfold hintOf;rw [if_neg (by omega),if_neg (by omega)];rfl
theorem y0j{d:Array Kt}{x s p t n:Nat}(h2:x+1<n)(e:medianAdjacent ltStr d x s=(p,t)):p<n:=by
 have m:=medianAdjacent_mem ltStr d x s;rw [e] at m;have m':p=x-1\/p=x\/p=x+1:=m;omega
theorem y0i{d:Array Kt}{x s p t:Nat}(e:medianAdjacent ltStr d x s=(p,t)):t<=s+3:=by
 have m:=medianAdjacent_count ltStr d x s;rw [e] at m;exact m
theorem ijk{a b n I J K:Nat}(hI:I=a+(b-a) / 4*1)(hJ:J=a+(b-a) / 4*2)(hK:K=a+(b-a) / 4*3)(hb:b<=n)(h8:b-a >= 8):1<=I/\I+1<n/\1<=J/\J+1<n/\1<=K/\K+1<n:=by omega
theorem v1m{a b I J K:Nat}(hab:a<b)(hI:I=a+(b-a) / 4*1)(hJ:J=a+(b-a) / 4*2)(hK:K=a+(b-a) / 4*3):(((a:Int)+((b:Int)-(a:Int)) / 4)=(I:Int)/\((a:Int)+((b:Int)-(a:Int)) / 4*2)=(J:Int)/\((a:Int)+((b:Int)-(a:Int)) / 4*3)=(K:Int))/\(a:Int)+((b-a:Nat):Int) / 4=(I:Int)/\(a:Int)+((b-a:Nat):Int) / 4*2=(J:Int)/\(a:Int)+((b-a:Nat):Int) / 4*3=(K:Int):=by omega
theorem y8o(hl:Pg recv blk off d.size)(hH:Holds encStr W blk off d)(hblk:blk<W.heap.size)(hab:a<b)(hb:b<=d.size)(hsz:d.size<4611686018427387904) :
 Calls Tryz.prog 117 #[.agg #[Xj recv,Xx sf sb],.int .i64 a,.int .i64 b] W fun e w' =>
  e=.returned (.tuple #[.int .i64 (choosePivot ltStr d a b).1,.int .i64 (hintCode (choosePivot ltStr d a b).2)])/\∃ n os,w'=sortWorld encStr W blk off n d os:=by
 have SWF:=jY (fun n s os=>x5b (recv:=recv) (sf:=sf) (sb:=sb) hH n s os);have ADJ:=jY (fun n s x os h1 h2 hs p t e=>v2n (sf:=sf) (sb:=sb) hl hH hblk hsz n s x os h1 h2 hs (p:=p) (t:=t) e);have MED:=jY (fun n s x y z os hx hy hz hs p t e=>v2o (sf:=sf) (sb:=sb) hl hH hblk n s x y z os hx hy hz hs (p:=p) (t:=t) e);have C0:=jY (fun n s os=>v3x (recv:=recv) (sf:=sf) (sb:=sb) (W:=W) n s os);have C1:=jY (fun n s os=>v3y (recv:=recv) (sf:=sf) (sb:=sb) (W:=W) n s os);have CT:=jY (fun n s os=>v3z (recv:=recv) (sf:=sf) (sb:=sb) (W:=W) n s os);have W0:=jY (x5a (recv:=recv) (sf:=sf) (sb:=sb) (W:=W)).symm;rw [choosePivot_eq];obtain ⟨I,hI⟩:∃ I:Nat,I=a+(b-a) / 4*1:=⟨_,rfl⟩;obtain ⟨J,hJ⟩:∃ J:Nat,J=a+(b-a) / 4*2:=⟨_,rfl⟩;obtain ⟨K,hK⟩:∃ K:Nat,K=a+(b-a) / 4*3:=⟨_,rfl⟩;obtain ⟨⟨eI,eJ,eK⟩,fI,fJ,fK⟩:=v1m hab hI hJ hK;have BND:=jY (ijk hI hJ hK hb);obtain ⟨⟨p,s⟩,hR⟩:∃ x,rawPivot ltStr d a b=x:=⟨_,rfl⟩;clear hl hH;rw [hR];unfold rawPivot at hR;simp only [<- hI,<- hJ,<- hK] at hR;clear hI hJ hK;obtain ⟨Hc,hHc⟩:∃ Hc:Int,hintCode (hintOf s)=Hc:=⟨_,rfl⟩;show Calls Tryz.prog 117 _ W fun e w'=>e=.returned (.tuple #[.int .i64 (p:Int),.int .i64 (hintCode (hintOf s))])/\∃ n os,w'=sortWorld encStr W blk off n d os;rw [hHc];generalize pv recv sf sb W=Wc at *;unfold pW Yn Xj Xx at *
 go_enter Tryz.func117,Tryz.ntmps117
 by_cases h8:b-a >= 8
 ·rw [if_pos h8] at hR
  by_cases h50:b-a >= 50
  ·rw [if_pos h50] at hR;obtain ⟨⟨i1,s1⟩,h1⟩:∃ x,medianAdjacent ltStr d I 0=x:=⟨_,rfl⟩;obtain ⟨⟨j1,s2⟩,h2⟩:∃ x,medianAdjacent ltStr d J s1=x:=⟨_,rfl⟩;obtain ⟨⟨k1,s3⟩,h3⟩:∃ x,medianAdjacent ltStr d K s2=x:=⟨_,rfl⟩;simp only [h1,h2,h3] at hR;have n1:=y0i h1;have n2:=y0i h2;have n3:=y0i h3;obtain ⟨u1,u2,u3,u4,u5,u6⟩:=BND.out h8;have K1:=jY (ADJ.out 0 0 I #[] u1 u2 (by omega) _ _ h1);have K2:=jY (fun N os=>ADJ.out N s1 J os u3 u4 (by omega) _ _ h2);have K3:=jY (fun N os=>ADJ.out N s2 K os u5 u6 (by omega) _ _ h3);have K4:=jY (fun N os=>MED.out N s3 i1 j1 k1 os (y0j u2 h1) (y0j u4 h2) (y0j u6 h3) (by omega) _ _ hR);clear n1 n2 n3 h1 h2 h3 hR ADJ MED u1 u2 u3 u4 u5 u6 BND;go_wp2_with fail;rw [W0.out];refine (K1.out).mono ?_;rintro e w' ⟨rfl,N1,o1,rfl⟩;have c0:=C0.out N1 s1 o1;have c1:=C1.out N1 s1 o1;have ct:=CT.out N1 s1 o1;go_wp2_with fail;refine (K2.out _ _).mono ?_;rintro e w' ⟨rfl,N2,o2,rfl⟩;have c0:=C0.out N2 s2 o2;have c1:=C1.out N2 s2 o2;have ct:=CT.out N2 s2 o2;go_wp2_with fail;refine (K3.out _ _).mono ?_;rintro e w' ⟨rfl,N3,o3,rfl⟩;have c0:=C0.out N3 s3 o3;have c1:=C1.out N3 s3 o3;have ct:=CT.out N3 s3 o3;go_wp2_with fail;refine (K4.out _ _).mono ?_;rintro e w' ⟨rfl,N4,o4,rfl⟩;have c0:=C0.out N4 s o4;have c1:=C1.out N4 s o4;have ct:=CT.out N4 s o4;rcases Decidable.em ((s:Int)=0) with hs0|hs0
   ·rw [x2k hs0] at hHc;subst hHc;go_wp2_with fail
    all_goals go_ret2
    exact ⟨rfl,SWF.out _ _ _⟩
   rcases Decidable.em ((s:Int)=12) with hs2|hs2
   ·rw [x2l hs2] at hHc;subst hHc;go_wp2_with fail
    all_goals go_ret2
    exact ⟨rfl,SWF.out _ _ _⟩
   ·rw [v0g hs0 hs2] at hHc;subst hHc;go_wp2_with fail
    all_goals go_ret2
    exact ⟨rfl,SWF.out _ _ _⟩
  ·rw [if_neg h50] at hR;obtain ⟨u1,u2,u3,u4,u5,u6⟩:=BND.out h8;have K4:=jY (MED.out 0 0 I J K #[] (by omega) (by omega) (by omega) (by omega) _ _ hR);clear hR u1 u2 u3 u4 u5 u6 BND ADJ MED;go_wp2_with fail;rw [W0.out];refine (K4.out).mono ?_;rintro e w' ⟨rfl,N4,o4,rfl⟩;have c0:=C0.out N4 s o4;have c1:=C1.out N4 s o4;have ct:=CT.out N4 s o4;rcases Decidable.em ((s:Int)=0) with hs0|hs0
   ·rw [x2k hs0] at hHc;subst hHc;go_wp2_with fail
    all_goals go_ret2
    exact ⟨rfl,SWF.out _ _ _⟩
   rcases Decidable.em ((s:Int)=12) with hs2|hs2
   ·rw [x2l hs2] at hHc;subst hHc;go_wp2_with fail
    all_goals go_ret2
    exact ⟨rfl,SWF.out _ _ _⟩
   ·rw [v0g hs0 hs2] at hHc;subst hHc;go_wp2_with fail
    all_goals go_ret2
    exact ⟨rfl,SWF.out _ _ _⟩
 ·rw [if_neg h8] at hR;obtain ⟨rfl,rfl⟩:=Prod.mk.inj hR;rw [x2k rfl] at hHc;subst hHc;go_wp2_with fail;rw [W0.out]
  all_goals go_ret2
  exact ⟨rfl,SWF.out _ _ _⟩
end
section
variable {recv:Value} {sf:Nat} {sb:Array Value} {blk off a b:Nat} {d:Array Kt} {w:World}
theorem x4u(hl:Pg recv blk off d.size)(hsw:SwapSwaps Tryz.prog sf sb encStr blk off d.size)(hH:Holds encStr w blk off d)(hblk:blk<w.heap.size)(hab:a<b)(hb:b<=d.size)(hsz:d.size<4611686018427387904) :
 Calls Tryz.prog 119 #[.agg #[Xj recv,Xx sf sb],.int .i64 a,.int .i64 b] w fun e w'=>e=.returned (.bool (Sort.partialInsertionSort ltStr d a b).2)/\∃ n os,w'=sortWorld encStr w blk off n (Sort.partialInsertionSort ltStr d a b).1 os:=by
 have HH:=jY (Y7 (Yn recv sf sb) hblk hH);have HSW:=jY hsw;have HL:=jY hl;have HB:=jY (Vh recv sf sb w);have HFIN:=jY (fun W dk (h:SW encStr (w.alloc (Yn recv sf sb)) blk off dk W)=>O2 _ hblk h);have HS0:=jY (SW.start (Y7 (Yn recv sf sb) hblk hH));have hwz:w.heap.size<(w.alloc (Yn recv sf sb)).heap.size:=by simp
 have hblk1:blk<(w.alloc (Yn recv sf sb)).heap.size:=by simp;omega
 clear hl hsw hH;unfold Yn Xj Xx at *
 go_enter Tryz.func119,Tryz.ntmps119
 go_wp2;generalize hw1:w.alloc (Obj.cells #[.func (.func 47) #[recv] #[],.func (.func sf) #[] sb] 145)=w1 at *
 go_loopw [7,8] (fun vi vs wr=>∃ (i s:Nat) (dk:Array Kt),vi=.int .i64 i/\vs=.int .i64 s/\s<=5/\a<i/\i<=b/\dk.size=d.size/\SW encStr w1 blk off dk wr/\partialIns ltStr a b (5-s) i dk=partialIns ltStr a b 5 (a+1) d) (fun _ vs _=>5-(intOf vs).toNat)
 case atStart=>exact ⟨a+1,0,d,by go_num,rfl,by omega,by omega,by omega,rfl,HS0.out,rfl⟩
 case round =>
  obtain ⟨i,s,dk,rfl,rfl,hs5,hai,hib,hsk,hwr,hO⟩:=hrel;have HO:=jY hO;have HWR:=jY hwr;clear hO hwr HS0
  by_cases hs:s<5
  ·have hsi:(s:Int)<5:=by omega
   go_wp2_with fail
   go_loopw [7] (fun vi wr2=>∃ k:Nat,vi=.int .i64 k/\i<=k/\k<=b/\SW encStr w1 blk off dk wr2/\scanSorted ltStr dk b k=scanSorted ltStr dk b i) (fun vi _=>b-(intOf vi).toNat)
   case atStart=>exact ⟨i,rfl,lAd _,hib,HWR.out,rfl⟩
   case round =>
    obtain ⟨k,rfl,hik,hkb,hw2,hS⟩:=hrel;have HX:=jY hw2;have HSC:=jY hS;have c0:=(Z7 (o:=0) hw2 hwz (by omega)).trans HB.out.1;have c1:=(Z7 (o:=1) hw2 hwz (by omega)).trans HB.out.2;clear hw2 hS HWR
    by_cases hle:k<b
    ·have hlr:=HL.out wr dk (HX.out.holds hblk1 HH.out hsk) hsk k (k-1) (by omega) (by omega);rw [show (((k-1:Nat):Int))=(k:Int)-1 by omega] at hlr
     cases hv:ltStr dk[k]! dk[k-1]! with
     | true =>
       rw [hv] at hlr;have HLR:=jY hlr;clear hlr;go_wp2_with fail;refine HLR.out.mono ?_;rintro e w' ⟨rfl,q,rfl⟩;have hq:=HX.out.drewN q;have c0:=(Z7 (o:=0) hq hwz (by omega)).trans HB.out.1;have c1:=(Z7 (o:=1) hq hwz (by omega)).trans HB.out.2;have HQ:=jY hq;clear HLR hq HX;generalize wr.drewN q=WQ at *;have hK:scanSorted ltStr dk b i=k:=by rw [<- HSC.out,scanSorted_stop _ _ _ _ (.inr hv)]
       by_cases h50:b-a<50
       ·have HR:=jY (show partialIns ltStr a b 5 (a+1) d=(dk,false) from by rw [<- HO.out,pi_short _ _ _ _ _ _ hs (by rw [hK];omega) h50]);have HEND:=jY (HFIN.out _ _ HQ.out);clear HQ HSC HO HL HSW c0 c1;go_wp2_with fail;go_ret;exact ⟨by unfold Sort.partialInsertionSort;rw [HR.out];first|done|rfl,by unfold Sort.partialInsertionSort;rw [HR.out];exact HEND.out⟩
       ·have h50i:(50:Int)<=(b:Int)-(a:Int):=by omega
        have HP:=jY (pi_go ltStr a b s i k dk hs hK (by omega) h50);clear HSC hK;have hs0:=HSW.out WQ dk (HQ.out.holds hblk1 HH.out hsk) hsk k (k-1) (by omega) (by omega);have hw0:=HQ.out.swap hblk1 k (k-1) (by omega) (by omega);rw [show (((k-1:Nat):Int))=(k:Int)-1 by omega] at hs0;have HS1:=jY hs0;have HW1:=jY hw0;have hz1:(swp dk k (k-1)).size=d.size:=(size_swp _ _ _).trans hsk;clear hs0 hw0;go_wp2_with fail;rw [HS1.out,Oper.upon_value];clear HS1 HQ c0 c1
        by_cases h2:k-a >= 2
        ·have h2i:(2:Int)<=(k:Int)-(a:Int):=by omega
         go_wp2_with fail
         go_loopw [9] (fun vj wr3=>∃ (j:Nat) (dj:Array Kt),vj=.int .i64 j/\j<=k-1/\dj.size=d.size/\SW encStr w1 blk off dj wr3/\shiftDown ltStr j dj=shiftDown ltStr (k-1) (swp dk k (k-1))) (fun vj _=>(intOf vj).toNat)
         case atStart=>exact ⟨k-1,(swp dk k (k-1)),by go_num,by omega,hz1,HW1.out,rfl⟩
         case round =>
          obtain ⟨j,dj,rfl,hjk,hsj,hw3,hD⟩:=hrel;have HX:=jY hw3;have HD:=jY hD;have c0:=(Z7 (o:=0) hw3 hwz (by omega)).trans HB.out.1;have c1:=(Z7 (o:=1) hw3 hwz (by omega)).trans HB.out.2;clear hw3 hD HW1
          by_cases hj1:1<=j
          ·have hlr:=HL.out wr dj (HX.out.holds hblk1 HH.out hsj) hsj j (j-1) (by omega) (by omega);rw [show (((j-1:Nat):Int))=(j:Int)-1 by omega] at hlr
           cases hv:ltStr dj[j]! dj[j-1]! with
           | true =>
             rw [hv] at hlr;have HLR:=jY hlr;clear hlr;go_wp2_with fail;refine HLR.out.mono ?_;rintro e w' ⟨rfl,q,rfl⟩;have hq:=HX.out.drewN q;have c0:=(Z7 (o:=0) hq hwz (by omega)).trans HB.out.1;have c1:=(Z7 (o:=1) hq hwz (by omega)).trans HB.out.2;have HQ:=jY hq;clear HLR hq HX;generalize wr.drewN q=WQ at *;have hs0:=HSW.out WQ dj (HQ.out.holds hblk1 HH.out hsj) hsj j (j-1) (by omega) (by omega);have hw0:=HQ.out.swap hblk1 j (j-1) (by omega) (by omega);rw [show (((j-1:Nat):Int))=(j:Int)-1 by omega] at hs0;have HS5:=jY hs0;have HW5:=jY hw0;have hz5:(swp dj j (j-1)).size=d.size:=(size_swp _ _ _).trans hsj;clear hs0 hw0;go_wp2_with fail;rw [HS5.out,Oper.upon_value];clear HS5 HQ c0 c1;go_wp2_with fail
             go_roundw
             case rel=>exact ⟨j-1,swp dj j (j-1),by go_num,by omega,hz5,HW5.out,by rw [<- HD.out,shiftDown_go _ _ _ hj1 hv]⟩
             case measure=>simp [intOf];omega
           | false =>
             rw [hv] at hlr;have HLR:=jY hlr;clear hlr;go_wp2_with fail;refine HLR.out.mono ?_;rintro e w' ⟨rfl,q,rfl⟩;have hq:=HX.out.drewN q;have c0:=(Z7 (o:=0) hq hwz (by omega)).trans HB.out.1;have c1:=(Z7 (o:=1) hq hwz (by omega)).trans HB.out.2;have HQ:=jY hq;clear HLR hq HX;generalize wr.drewN q=WQ at *;have HDN:=jY (show fixDown ltStr a k (swp dk k (k-1))=dj from by unfold fixDown;rw [if_pos h2,<- HD.out,shiftDown_stop _ _ _ (.inr hv)]);clear HD c0 c1
             by_cases h3:b-k >= 2
             ·have h3i:(2:Int)<=(b:Int)-(k:Int):=by omega
              go_wp2_with fail
              go_loopw [10] (fun vj wr4=>∃ (j:Nat) (du:Array Kt),vj=.int .i64 j/\k+1<=j/\j<=b/\du.size=d.size/\SW encStr w1 blk off du wr4/\shiftUp ltStr b j du=shiftUp ltStr b (k+1) dj) (fun vj _=>b-(intOf vj).toNat)
              case atStart=>exact ⟨k+1,dj,by go_num,by omega,by omega,hsj,HQ.out,rfl⟩
              case round =>
               obtain ⟨j,du,rfl,hkj,hjb,hsu,hw4,hU⟩:=hrel;have HX:=jY hw4;have HU:=jY hU;have c0:=(Z7 (o:=0) hw4 hwz (by omega)).trans HB.out.1;have c1:=(Z7 (o:=1) hw4 hwz (by omega)).trans HB.out.2;clear hw4 hU HQ
               by_cases hjl:j<b
               ·have hlr:=HL.out wr du (HX.out.holds hblk1 HH.out hsu) hsu j (j-1) (by omega) (by omega);rw [show (((j-1:Nat):Int))=(j:Int)-1 by omega] at hlr
                cases hv:ltStr du[j]! du[j-1]! with
                | true =>
                  rw [hv] at hlr;have HLR:=jY hlr;clear hlr;go_wp2_with fail;refine HLR.out.mono ?_;rintro e w' ⟨rfl,q,rfl⟩;have hq:=HX.out.drewN q;have c0:=(Z7 (o:=0) hq hwz (by omega)).trans HB.out.1;have c1:=(Z7 (o:=1) hq hwz (by omega)).trans HB.out.2;have HQ:=jY hq;clear HLR hq HX;generalize wr.drewN q=WQ at *;have hs0:=HSW.out WQ du (HQ.out.holds hblk1 HH.out hsu) hsu j (j-1) (by omega) (by omega);have hw0:=HQ.out.swap hblk1 j (j-1) (by omega) (by omega);rw [show (((j-1:Nat):Int))=(j:Int)-1 by omega] at hs0;have HS6:=jY hs0;have HW6:=jY hw0;have hz6:(swp du j (j-1)).size=d.size:=(size_swp _ _ _).trans hsu;clear hs0 hw0;go_wp2_with fail;rw [HS6.out,Oper.upon_value];clear HS6 HQ c0 c1;go_wp2_with fail
                  go_roundw
                  case rel=>exact ⟨j+1,swp du j (j-1),by go_num,by omega,by omega,hz6,HW6.out,by rw [<- HU.out,shiftUp_go _ _ _ _ hjl hv]⟩
                  case measure=>simp [intOf];omega
                | false =>
                  rw [hv] at hlr;have HLR:=jY hlr;clear hlr;go_wp2_with fail;refine HLR.out.mono ?_;rintro e w' ⟨rfl,q,rfl⟩;have hq:=HX.out.drewN q;have c0:=(Z7 (o:=0) hq hwz (by omega)).trans HB.out.1;have c1:=(Z7 (o:=1) hq hwz (by omega)).trans HB.out.2;have HQ:=jY hq;clear HLR hq HX;generalize wr.drewN q=WQ at *;have HUP:=jY (show fixUp ltStr b k dj=du from by unfold fixUp;rw [if_pos h3,<- HU.out,shiftUp_stop _ _ _ _ (.inr hv)]);go_wp2_with fail
                  go_roundw
                  case rel=>exact ⟨k,s+1,du,rfl,by go_num,by omega,by omega,by omega,hsu,HQ.out,by rw [<- HO.out,HP.out,HDN.out,HUP.out]⟩
                  case measure=>simp [intOf];omega
               ·have HUP:=jY (show fixUp ltStr b k dj=du from by unfold fixUp;rw [if_pos h3,<- HU.out,shiftUp_stop _ _ _ _ (.inl hjl)]);go_wp2_with fail
                go_roundw
                case rel=>exact ⟨k,s+1,du,rfl,by go_num,by omega,by omega,by omega,hsu,HX.out,by rw [<- HO.out,HP.out,HDN.out,HUP.out]⟩
                case measure=>simp [intOf];omega
             ·have HUP:=jY (show fixUp ltStr b k dj=dj from by unfold fixUp;rw [if_neg h3]);go_wp2_with fail
              go_roundw
              case rel=>exact ⟨k,s+1,dj,rfl,by go_num,by omega,by omega,by omega,hsj,HQ.out,by rw [<- HO.out,HP.out,HDN.out,HUP.out]⟩
              case measure=>simp [intOf];omega
          ·have HDN:=jY (show fixDown ltStr a k (swp dk k (k-1))=dj from by unfold fixDown;rw [if_pos h2,<- HD.out,shiftDown_stop _ _ _ (.inl (by omega))]);clear HD c0 c1;have HZ0:=HX;clear HX
           by_cases h3:b-k >= 2
           ·have h3i:(2:Int)<=(b:Int)-(k:Int):=by omega
            go_wp2_with fail
            go_loopw [10] (fun vj wr4=>∃ (j:Nat) (du:Array Kt),vj=.int .i64 j/\k+1<=j/\j<=b/\du.size=d.size/\SW encStr w1 blk off du wr4/\shiftUp ltStr b j du=shiftUp ltStr b (k+1) dj) (fun vj _=>b-(intOf vj).toNat)
            case atStart=>exact ⟨k+1,dj,by go_num,by omega,by omega,hsj,HZ0.out,rfl⟩
            case round =>
             obtain ⟨j,du,rfl,hkj,hjb,hsu,hw4,hU⟩:=hrel;have HX:=jY hw4;have HU:=jY hU;have c0:=(Z7 (o:=0) hw4 hwz (by omega)).trans HB.out.1;have c1:=(Z7 (o:=1) hw4 hwz (by omega)).trans HB.out.2;clear hw4 hU HZ0
             by_cases hjl:j<b
             ·have hlr:=HL.out wr du (HX.out.holds hblk1 HH.out hsu) hsu j (j-1) (by omega) (by omega);rw [show (((j-1:Nat):Int))=(j:Int)-1 by omega] at hlr
              cases hv:ltStr du[j]! du[j-1]! with
              | true =>
                rw [hv] at hlr;have HLR:=jY hlr;clear hlr;go_wp2_with fail;refine HLR.out.mono ?_;rintro e w' ⟨rfl,q,rfl⟩;have hq:=HX.out.drewN q;have c0:=(Z7 (o:=0) hq hwz (by omega)).trans HB.out.1;have c1:=(Z7 (o:=1) hq hwz (by omega)).trans HB.out.2;have HQ:=jY hq;clear HLR hq HX;generalize wr.drewN q=WQ at *;have hs0:=HSW.out WQ du (HQ.out.holds hblk1 HH.out hsu) hsu j (j-1) (by omega) (by omega);have hw0:=HQ.out.swap hblk1 j (j-1) (by omega) (by omega);rw [show (((j-1:Nat):Int))=(j:Int)-1 by omega] at hs0;have HS6:=jY hs0;have HW6:=jY hw0;have hz6:(swp du j (j-1)).size=d.size:=(size_swp _ _ _).trans hsu;clear hs0 hw0;go_wp2_with fail;rw [HS6.out,Oper.upon_value];clear HS6 HQ c0 c1;go_wp2_with fail
                go_roundw
                case rel=>exact ⟨j+1,swp du j (j-1),by go_num,by omega,by omega,hz6,HW6.out,by rw [<- HU.out,shiftUp_go _ _ _ _ hjl hv]⟩
                case measure=>simp [intOf];omega
              | false =>
                rw [hv] at hlr;have HLR:=jY hlr;clear hlr;go_wp2_with fail;refine HLR.out.mono ?_;rintro e w' ⟨rfl,q,rfl⟩;have hq:=HX.out.drewN q;have c0:=(Z7 (o:=0) hq hwz (by omega)).trans HB.out.1;have c1:=(Z7 (o:=1) hq hwz (by omega)).trans HB.out.2;have HQ:=jY hq;clear HLR hq HX;generalize wr.drewN q=WQ at *;have HUP:=jY (show fixUp ltStr b k dj=du from by unfold fixUp;rw [if_pos h3,<- HU.out,shiftUp_stop _ _ _ _ (.inr hv)]);go_wp2_with fail
                go_roundw
                case rel=>exact ⟨k,s+1,du,rfl,by go_num,by omega,by omega,by omega,hsu,HQ.out,by rw [<- HO.out,HP.out,HDN.out,HUP.out]⟩
                case measure=>simp [intOf];omega
             ·have HUP:=jY (show fixUp ltStr b k dj=du from by unfold fixUp;rw [if_pos h3,<- HU.out,shiftUp_stop _ _ _ _ (.inl hjl)]);go_wp2_with fail
              go_roundw
              case rel=>exact ⟨k,s+1,du,rfl,by go_num,by omega,by omega,by omega,hsu,HX.out,by rw [<- HO.out,HP.out,HDN.out,HUP.out]⟩
              case measure=>simp [intOf];omega
           ·have HUP:=jY (show fixUp ltStr b k dj=dj from by unfold fixUp;rw [if_neg h3]);go_wp2_with fail
            go_roundw
            case rel=>exact ⟨k,s+1,dj,rfl,by go_num,by omega,by omega,by omega,hsj,HZ0.out,by rw [<- HO.out,HP.out,HDN.out,HUP.out]⟩
            case measure=>simp [intOf];omega
        ·have HDN:=jY (show fixDown ltStr a k (swp dk k (k-1))=(swp dk k (k-1)) from by unfold fixDown;rw [if_neg h2])
         by_cases h3:b-k >= 2
         ·have h3i:(2:Int)<=(b:Int)-(k:Int):=by omega
          go_wp2_with fail
          go_loopw [10] (fun vj wr4=>∃ (j:Nat) (du:Array Kt),vj=.int .i64 j/\k+1<=j/\j<=b/\du.size=d.size/\SW encStr w1 blk off du wr4/\shiftUp ltStr b j du=shiftUp ltStr b (k+1) (swp dk k (k-1))) (fun vj _=>b-(intOf vj).toNat)
          case atStart=>exact ⟨k+1,(swp dk k (k-1)),by go_num,by omega,by omega,hz1,HW1.out,rfl⟩
          case round =>
           obtain ⟨j,du,rfl,hkj,hjb,hsu,hw4,hU⟩:=hrel;have HX:=jY hw4;have HU:=jY hU;have c0:=(Z7 (o:=0) hw4 hwz (by omega)).trans HB.out.1;have c1:=(Z7 (o:=1) hw4 hwz (by omega)).trans HB.out.2;clear hw4 hU HW1
           by_cases hjl:j<b
           ·have hlr:=HL.out wr du (HX.out.holds hblk1 HH.out hsu) hsu j (j-1) (by omega) (by omega);rw [show (((j-1:Nat):Int))=(j:Int)-1 by omega] at hlr
            cases hv:ltStr du[j]! du[j-1]! with
            | true =>
              rw [hv] at hlr;have HLR:=jY hlr;clear hlr;go_wp2_with fail;refine HLR.out.mono ?_;rintro e w' ⟨rfl,q,rfl⟩;have hq:=HX.out.drewN q;have c0:=(Z7 (o:=0) hq hwz (by omega)).trans HB.out.1;have c1:=(Z7 (o:=1) hq hwz (by omega)).trans HB.out.2;have HQ:=jY hq;clear HLR hq HX;generalize wr.drewN q=WQ at *;have hs0:=HSW.out WQ du (HQ.out.holds hblk1 HH.out hsu) hsu j (j-1) (by omega) (by omega);have hw0:=HQ.out.swap hblk1 j (j-1) (by omega) (by omega);rw [show (((j-1:Nat):Int))=(j:Int)-1 by omega] at hs0;have HS6:=jY hs0;have HW6:=jY hw0;have hz6:(swp du j (j-1)).size=d.size:=(size_swp _ _ _).trans hsu;clear hs0 hw0;go_wp2_with fail;rw [HS6.out,Oper.upon_value];clear HS6 HQ c0 c1;go_wp2_with fail
              go_roundw
              case rel=>exact ⟨j+1,swp du j (j-1),by go_num,by omega,by omega,hz6,HW6.out,by rw [<- HU.out,shiftUp_go _ _ _ _ hjl hv]⟩
              case measure=>simp [intOf];omega
            | false =>
              rw [hv] at hlr;have HLR:=jY hlr;clear hlr;go_wp2_with fail;refine HLR.out.mono ?_;rintro e w' ⟨rfl,q,rfl⟩;have hq:=HX.out.drewN q;have c0:=(Z7 (o:=0) hq hwz (by omega)).trans HB.out.1;have c1:=(Z7 (o:=1) hq hwz (by omega)).trans HB.out.2;have HQ:=jY hq;clear HLR hq HX;generalize wr.drewN q=WQ at *;have HUP:=jY (show fixUp ltStr b k (swp dk k (k-1))=du from by unfold fixUp;rw [if_pos h3,<- HU.out,shiftUp_stop _ _ _ _ (.inr hv)]);go_wp2_with fail
              go_roundw
              case rel=>exact ⟨k,s+1,du,rfl,by go_num,by omega,by omega,by omega,hsu,HQ.out,by rw [<- HO.out,HP.out,HDN.out,HUP.out]⟩
              case measure=>simp [intOf];omega
           ·have HUP:=jY (show fixUp ltStr b k (swp dk k (k-1))=du from by unfold fixUp;rw [if_pos h3,<- HU.out,shiftUp_stop _ _ _ _ (.inl hjl)]);go_wp2_with fail
            go_roundw
            case rel=>exact ⟨k,s+1,du,rfl,by go_num,by omega,by omega,by omega,hsu,HX.out,by rw [<- HO.out,HP.out,HDN.out,HUP.out]⟩
            case measure=>simp [intOf];omega
         ·omega
     | false =>
       rw [hv] at hlr;have HLR:=jY hlr;clear hlr;go_wp2_with fail;refine HLR.out.mono ?_;rintro e w' ⟨rfl,q,rfl⟩;have hq:=HX.out.drewN q;have c0:=(Z7 (o:=0) hq hwz (by omega)).trans HB.out.1;have c1:=(Z7 (o:=1) hq hwz (by omega)).trans HB.out.2;have HQ:=jY hq;clear HLR hq HX;generalize wr.drewN q=WQ at *;go_wp2_with fail
       go_roundw
       case rel=>exact ⟨k+1,by go_num,by omega,by omega,HQ.out,by rw [<- HSC.out,scanSorted_go _ _ _ _ hle hv]⟩
       case measure=>simp [intOf];omega
    ·have hkk:k=b:=by omega
     have HR:=jY (show partialIns ltStr a b 5 (a+1) d=(dk,true) from by rw [<- HO.out,pi_true _ _ _ _ _ _ hs (by rw [<- HSC.out,scanSorted_stop _ _ _ _ (.inl hle),hkk])]);have HEND:=jY (HFIN.out _ _ HX.out);clear HX HSC HO HL HSW c0 c1;go_wp2_with fail;go_ret;exact ⟨by unfold Sort.partialInsertionSort;rw [HR.out];first|done|rfl,by unfold Sort.partialInsertionSort;rw [HR.out];exact HEND.out⟩
  ·have HR:=jY (show partialIns ltStr a b 5 (a+1) d=(dk,false) from by rw [<- HO.out,show 5-s=5-5 by omega];exact pi_end ltStr a b i dk);have HEND:=jY (HFIN.out _ _ HWR.out);clear HWR HO HL HSW;go_wp2_with fail;go_ret;exact ⟨by unfold Sort.partialInsertionSort;rw [HR.out];first|done|rfl,by unfold Sort.partialInsertionSort;rw [HR.out];exact HEND.out⟩
end
end Go.Proofs.YtcklcmafohlflaaGreatDoor.St

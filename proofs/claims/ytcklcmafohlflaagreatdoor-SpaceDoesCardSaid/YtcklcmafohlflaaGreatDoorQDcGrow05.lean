/- Texts of one kind in one: DcGrow, DcMove, DcStep, DcSlots, DcQuietIn. -/
import Derived.Test.YtcklcmafohlflaaGreatDoorQSnPos04
import Derived.StillTailTactics
set_option maxRecDepth 200000
set_option maxHeartbeats 8000000
namespace Go.Proofs.YtcklcmafohlflaaGreatDoor.Dc
open Zc
open Go.RowKit Go.Shelf
attribute [local go_sem] Oper.semAt_some
def Dc.grown(D:Dc):Dc:=if D.b=[]/\D.a.length<=D.n/\D.a.length<65536 then D.begin (2*D.n) else D
def Dc.shrunk(D:Dc):Dc:=if D.b=[]/\4<D.a.length/\8*D.n<D.a.length then D.begin D.n else D
theorem Yt(D:Dc):D.moving=false↔D.b=[]:=by
 unfold Dc.moving
 cases D.b with
 | nil=>simp
 | cons x l=>simp
section
variable {S:Nat->Prop} {p seed:Nat} {D:Dc} {w:World}
theorem Ad(h:Rep tyI w p S seed D)(hn:D.n<=1000000):Calls Tryz.prog 188 #[.pointer (some ⟨p,0,none⟩)] w fun e w'=>e=.returned (.tuple #[])/\Went tyI S w p seed D.grown w':=by
 have hmv:=Vb h;have hst:=jY (Went.start h);have H:=jY h;obtain ⟨g0,g1,A1,va,vb,hm,hf,hc⟩:=h;obtain ⟨c0,c1,c2,c3,c4,f0,f1,f3,f4⟩:=Zy hm;clear hm hf hc
 cases hb:D.moving with
 | true =>
   have hD:D.grown=D:=by unfold Dc.grown;rw [if_neg];intro h;rw [(Yt D).2 h.1] at hb;cases hb
   rw [hD];rw [hb] at hmv;have HM:=jY hmv;clear hmv hb hD
   go_enter Tryz.func188,Tryz.ntmps188
   go_wp2_with fail;refine HM.out.mono ?_;rintro e w1 ⟨rfl,rfl⟩;go_wp2;go_returns;exact ⟨rfl,hst.out⟩
 | false =>
   have hbn:=(Yt D).1 hb;rw [hb] at hmv;have HM:=jY hmv
   by_cases hc:D.a.length<=D.n/\D.a.length<65536
   ·have hD:D.grown=D.begin (2*D.n):=by unfold Dc.grown;rw [if_pos ⟨hbn,hc.1,hc.2⟩]
    have HB:=jY (Om H.out (2*D.n) hbn);rw [hD];obtain ⟨h1,h2⟩:=hc;have h1':(D.a.length:Int)<=D.n:=by omega
    have h2':(D.a.length:Int)<65536:=by omega
    have h3:(D.n:Int)<=1000000:=by omega
    have hcast:((2*D.n:Nat):Int)=2*(D.n:Int):=by omega
    rw [hcast] at HB;clear hmv hb hD hbn hcast hst
    go_enter Tryz.func188,Tryz.ntmps188
    go_wp2_with fail;refine HM.out.mono ?_;rintro e w1 ⟨rfl,rfl⟩;go_wp2_with fail;refine HB.out.mono ?_;rintro e w1 ⟨rfl,hw⟩;have HW:=jY hw;clear hw;go_wp2;go_returns;exact ⟨rfl,HW.out⟩
   ·have hD:D.grown=D:=by unfold Dc.grown;rw [if_neg];intro h;exact hc ⟨h.2.1,h.2.2⟩
    rw [hD];clear hmv hb hD hbn
    by_cases h1:D.n<D.a.length
    ·have h1':(D.n:Int)<D.a.length:=by omega
     go_enter Tryz.func188,Tryz.ntmps188
     go_wp2_with fail;refine HM.out.mono ?_;rintro e w1 ⟨rfl,rfl⟩;go_wp2;go_returns;exact ⟨rfl,hst.out⟩
    ·have h1':(D.a.length:Int)<=D.n:=by omega
     have h2':decide ((D.a.length:Int)<65536)=false:=by rw [decide_eq_false_iff_not];omega
     clear hc h1
     go_enter Tryz.func188,Tryz.ntmps188
     go_wp2_with fail;refine HM.out.mono ?_;rintro e w1 ⟨rfl,rfl⟩;go_wp2;go_returns;exact ⟨rfl,hst.out⟩
theorem Gj(h:Rep tyI w p S seed D)(hn:D.n<=1000000):Calls Tryz.prog 307 #[.pointer (some ⟨p,0,none⟩)] w fun e w'=>e=.returned (.tuple #[])/\Went tyI S w p seed D.shrunk w':=by
 have hmv:=Vb h;have hst:=jY (Went.start h);have H:=jY h;obtain ⟨g0,g1,A1,va,vb,hm,hf,hc⟩:=h;obtain ⟨c0,c1,c2,c3,c4,f0,f1,f3,f4⟩:=Zy hm;clear hm hf hc;have h3:(D.n:Int)<=1000000:=by omega
 cases hb:D.moving with
 | true =>
   have hD:D.shrunk=D:=by unfold Dc.shrunk;rw [if_neg];intro h;rw [(Yt D).2 h.1] at hb;cases hb
   rw [hD];rw [hb] at hmv;have HM:=jY hmv;clear hmv hb hD
   go_enter Tryz.func307,Tryz.ntmps307
   go_wp2_with fail;refine HM.out.mono ?_;rintro e w1 ⟨rfl,rfl⟩;go_wp2;go_returns;exact ⟨rfl,hst.out⟩
 | false =>
   have hbn:=(Yt D).1 hb;rw [hb] at hmv;have HM:=jY hmv
   by_cases hc:4<D.a.length/\8*D.n<D.a.length
   ·have hD:D.shrunk=D.begin D.n:=by unfold Dc.shrunk;rw [if_pos ⟨hbn,hc.1,hc.2⟩]
    have HB:=jY (Om H.out D.n hbn);rw [hD];obtain ⟨h1,h2⟩:=hc;have h1':4<(D.a.length:Int):=by omega
    have h2':8*(D.n:Int)<D.a.length:=by omega
    clear hmv hb hD hbn hst
    go_enter Tryz.func307,Tryz.ntmps307
    go_wp2_with fail;refine HM.out.mono ?_;rintro e w1 ⟨rfl,rfl⟩;go_wp2_with fail;refine HB.out.mono ?_;rintro e w1 ⟨rfl,hw⟩;have HW:=jY hw;clear hw;go_wp2;go_returns;exact ⟨rfl,HW.out⟩
   ·have hD:D.shrunk=D:=by unfold Dc.shrunk;rw [if_neg];intro h;exact hc ⟨h.2.1,h.2.2⟩
    rw [hD];clear hmv hb hD hbn
    by_cases h1:D.a.length<=4
    ·have h1':(D.a.length:Int)<=4:=by omega
     go_enter Tryz.func307,Tryz.ntmps307
     go_wp2_with fail;refine HM.out.mono ?_;rintro e w1 ⟨rfl,rfl⟩;go_wp2;go_returns;exact ⟨rfl,hst.out⟩
    ·have h1':4<(D.a.length:Int):=by omega
     have h2':(D.a.length:Int)<=8*(D.n:Int):=by omega
     clear hc
     go_enter Tryz.func307,Tryz.ntmps307
     go_wp2_with fail;refine HM.out.mono ?_;rintro e w1 ⟨rfl,rfl⟩;go_wp2;go_returns;exact ⟨rfl,hst.out⟩
end
def Ty.Apart(T:Ty):Prop:=T.d≠T.t/\T.d≠T.r/\T.t≠T.r
theorem Kl:tyI.Apart:=⟨by decide,by decide,by decide⟩
theorem TabAt.past{T:Ty}(hT:T.Apart){W W':World}{p g:Nat}{vs:List Value}{rows:List (List Nd)}{c:Array Value}(h:TabAt T W g vs rows)(f:Far (fun k=>k=p) W W')(hp:Blk W p T.d c):TabAt T W' g vs rows:=by
 refine h.far f ?_;rintro k (rfl|⟨v,hv,hk⟩) rfl
 ·exact hT.1 (hp.ty h.blk)
 ·obtain ⟨r,hr⟩:=h.mem hv;obtain ⟨c,hc⟩:=hr.blk hk;exact hT.2.1 (hp.ty hc)
theorem TabAt.emptied{T:Ty}(hT:T.Apart){W:World}{g:Nat}{vs:List Value}{rows:List (List Nd)}(h:TabAt T W g vs rows)(i:Nat) :
 TabAt T (W.setCell ⟨g,i,none⟩ (.slice none 0 0)) g (vs.set i (.slice none 0 0)) (rows.set i []):=by
 have f:Far (fun k=>k=g) W (W.setCell ⟨g,i,none⟩ (.slice none 0 0)):=(Far.refl _ _).set _ _ (.inl rfl);refine ⟨?_,by rw [List.length_set,List.length_set];exact h.len,fun j v r hv hr=>?_⟩
 ·have:=h.blk.set i (.slice none 0 0)
  rwa [List.setIfInBounds_toArray] at this
 ·by_cases e:j=i
  ·subst e;rw [List.getElem?_set_self (by have:=(lAb.1 hv).1;simpa using this)] at hv;rw [List.getElem?_set_self (by have:=(lAb.1 hr).1;simpa using this)] at hr
   cases hv;cases hr
   exact RowAt.nil _ _
  ·rw [List.getElem?_set_ne (fun h=>e h.symm)] at hv hr;refine (h.row j v r hv hr).far f fun k hk e=>?_;subst e;obtain ⟨c,hc⟩:=(h.row j v r hv hr).blk hk;exact hT.2.2 (h.blk.ty hc)
theorem TabAt.beside{T:Ty}(hT:T.Apart){W W':World}{g g1:Nat}{vs us:List Value}{rows rows1:List (List Nd)}(h:TabAt T W g vs rows)(h1:TabAt T W g1 us rows1)(hg:g≠g1)(hs:∀ v∈vs,∀ u∈us,∀ k,v.ownBlock=some k->u.ownBlock≠some k)
 (f:Far (U4 g1 us) W W'):TabAt T W' g vs rows:=by
 refine h.far f ?_;rintro k (rfl|⟨v,hv,hk⟩) (h2|⟨u,hu,hk2⟩)
 ·exact hg h2
 ·obtain ⟨r,hr⟩:=h1.mem hu;obtain ⟨c,hc⟩:=hr.blk hk2;exact hT.2.2 (h.blk.ty hc)
 ·subst h2;obtain ⟨r,hr⟩:=h.mem hv;obtain ⟨c,hc⟩:=hr.blk hk;exact hT.2.2 (h1.blk.ty hc)
 ·exact hs v hv u hu k hk hk2
def Dc.move1(D:Dc):Dc :=
 if D.place+1=D.a.length then ⟨Xe D.b (D.a.getD D.place []),[],0,D.n⟩ else ⟨D.a.set D.place [],Xe D.b (D.a.getD D.place []),D.place+1,D.n⟩
theorem x7g{D:Dc}(h:D.moving=true):D.b≠[]:=fun e=>by rw [(Yt D).2 e] at h;cases h
section
variable {S:Nat->Prop} {p seed:Nat} {D:Dc} {w:World}
theorem Ar{g0 g1:Nat}{A1:Option Addr}{va vb:List Value}(hm:Mem tyI w p g0 g1 A1 va vb seed D)(hb:D.b≠[]){w1:World}(hP:PutI w g1 vb D.b (D.a.getD D.place []) (D.a.getD D.place []).length w1) :
 ∃ vb',Mem tyI w1 p g0 g1 A1 va vb' seed { D with b:=Xe D.b (D.a.getD D.place []) }/\(∀ u∈vb',∀ k,u.ownBlock=some k->(∃ u0∈vb,u0.ownBlock=some k)\/w.heap.size<=k)/\Far (U4 g1 vb) w w1:=by
 obtain ⟨vb',hT,hS,hI,hF⟩:=hP;rw [List.take_length] at hT;rcases hm.tb with ⟨h,_⟩|⟨_,hA,hg,htb⟩
 ·exact absurd h hb
 have hsa:=fun v (hv:v∈va) u (hu:u∈vb) k hk=>Sep.apart hm.sep hv hu (k:=k) hk;have hta:=hm.ta.beside Kl htb (fun e=>hg e.symm) hsa hF;refine ⟨vb',⟨?_,hta,.inr ⟨?_,hA,hg,hT⟩,hm.sep.left.join hS fun v hv u hu k hk h2=>?_⟩,hI,hF⟩
 ·have:=hF.blk hm.dict (fun h=>by
   rcases h with h|⟨u,hu,h⟩
   ·subst h;exact absurd (hm.dict.ty htb.blk) (by decide)
   ·obtain ⟨r,hr⟩:=htb.mem hu;obtain ⟨c,hc⟩:=hr.blk h
    exact absurd (hm.dict.ty hc) (by decide))
  simpa [Yp] using this
 ·intro e
  have:=congrArg List.length e
  rw [Yp] at this;exact hb (List.eq_nil_of_length_eq_zero (by simpa using this))
 ·rcases hI u hu k h2 with ⟨u0,h3,h4⟩|h3
  ·exact Sep.apart hm.sep hv h3 hk h4
  ·obtain ⟨r,hr⟩:=hm.ta.mem hv
   have:=hr.lt hk
   omega
theorem z5b{g0 g1:Nat}{A1:Option Addr}{va vb vb':List Value}(hf:Foot S p g0 g1 va vb D)(hb:D.b≠[]){w1:World}(hm1:Mem tyI w1 p g0 g1 A1 va vb' seed { D with b:=Xe D.b (D.a.getD D.place []) })
 (hI:∀ u∈vb',∀ k,u.ownBlock=some k->(∃ u0∈vb,u0.ownBlock=some k)\/w.heap.size<=k) (hF:Far (U4 g1 vb) w w1) (hl:D.place+1≠D.a.length) :
 Went tyI S w p seed D.move1 ((w1.setCell ⟨g0,D.place,none⟩ (.slice none 0 0)).setCell ⟨p,3,none⟩ (.int .i64 (D.place+1:Nat))):=by
 have hd:D.move1=⟨D.a.set D.place [],Xe D.b (D.a.getD D.place []),D.place+1,D.n⟩:=by unfold Dc.move1;rw [if_neg hl]
 rw [hd];rcases hm1.tb with ⟨h,_⟩|⟨hb1,hA,hg,htb⟩
 ·exact absurd (by have:=congrArg List.length h;simp only [Yp] at this;exact List.eq_nil_of_length_eq_zero (by simpa using this)) hb
 have hgp:p≠g0:=fun e=>by have h1:=hm1.dict;rw [e] at h1;exact absurd (h1.ty hm1.ta.blk) (by decide)
 have hbl:=hm1.dict.setOther D.place (.slice none 0 0) hgp;have f1:Far (fun k=>k=g0) w1 (w1.setCell ⟨g0,D.place,none⟩ (.slice none 0 0)):=(Far.refl _ _).set _ _ (.inl rfl);have f2:Far (fun k=>k=p) (w1.setCell ⟨g0,D.place,none⟩ (.slice none 0 0)) ((w1.setCell ⟨g0,D.place,none⟩ (.slice none 0 0)).setCell ⟨p,3,none⟩ (.int .i64 (D.place+1:Nat))):=(Far.refl _ _).set _ _ (.inl rfl);refine Went.mk' (g0:=g0) (g1:=g1) (A1:=A1) (va:=va.set D.place (.slice none 0 0)) (vb:=vb') ⟨?_,?_,.inr ⟨hb1,hA,hg,?_⟩,?_⟩ ?_ (.inl hf.p) (.inl hf.g0) (fun _=>.inl (hf.g1 hb)) ?_
 ·have:=hbl.set 3 (.int .i64 (D.place+1:Nat))
  simpa using this
 ·exact (hm1.ta.emptied Kl D.place).past Kl f2 hbl
 ·refine TabAt.past Kl ?_ f2 hbl;refine htb.far f1 ?_;rintro k (rfl|⟨v,hv,hk⟩) rfl
  ·exact hg rfl
  ·obtain ⟨r,hr⟩:=htb.mem hv;obtain ⟨c,hc⟩:=hr.blk hk;exact absurd (hm1.ta.blk.ty hc) (by decide)
 ·have hs:=hm1.sep;refine Sep.join ?_ hs.right fun v hv u hu k hk=>?_
  ·by_cases hi:D.place<va.length
   ·exact hs.left.set (lAa hi) fun k hk=>by simp [Value.ownBlock] at hk
   ·rw [List.set_eq_of_length_le (by omega)];exact hs.left
  ·rcases List.mem_or_eq_of_mem_set hv with h|rfl
   ·exact Sep.apart hs h hu hk
   ·simp [Value.ownBlock] at hk
 ·refine ((hF.mono (S1:=S) ?_).set _ _ (.inl hf.g0)).set _ _ (.inl hf.p);rintro k (rfl|⟨u,hu,hk⟩)
  ·exact hf.g1 hb
  ·exact hf.row u (List.mem_append_right _ hu) k hk
 ·intro v hv k hk;rcases List.mem_append.1 hv with h|h
  ·rcases List.mem_or_eq_of_mem_set h with h|rfl
   ·exact .inl (hf.row v (List.mem_append_left _ h) k hk)
   ·simp [Value.ownBlock] at hk
  ·rcases hI v h k hk with ⟨u0,h1,h2⟩|h1
   ·exact .inl (hf.row u0 (List.mem_append_right _ h1) k h2)
   ·exact .inr h1
theorem Ds{g0 g1:Nat}{A1:Option Addr}{va vb vb':List Value}(hf:Foot S p g0 g1 va vb D)(hb:D.b≠[]){w1:World}(hm1:Mem tyI w1 p g0 g1 A1 va vb' seed { D with b:=Xe D.b (D.a.getD D.place []) })
 (hI:∀ u∈vb',∀ k,u.ownBlock=some k->(∃ u0∈vb,u0.ownBlock=some k)\/w.heap.size<=k) (hF:Far (U4 g1 vb) w w1) (hl:D.place+1=D.a.length) :
 Went tyI S w p seed D.move1 (((((w1.setCell ⟨g0,D.place,none⟩ (.slice none 0 0)).setCell ⟨p,3,none⟩ (.int .i64 (D.place+1:Nat))).setCell ⟨p,0,none⟩ (.slice A1 D.b.length D.b.length)).setCell ⟨p,1,none⟩ (.slice none 0 0)).setCell ⟨p,3,none⟩ (.int .i64 0)):=by
 have hd:D.move1=⟨Xe D.b (D.a.getD D.place []),[],0,D.n⟩:=by unfold Dc.move1;rw [if_pos hl]
 rw [hd];rcases hm1.tb with ⟨h,_⟩|⟨hb1,hA,hg,htb⟩
 ·exact absurd (by have:=congrArg List.length h;simp only [Yp] at this;exact List.eq_nil_of_length_eq_zero (by simpa using this)) hb
 have hgp:p≠g0:=fun e=>by have h1:=hm1.dict;rw [e] at h1;exact absurd (h1.ty hm1.ta.blk) (by decide)
 have hbl:=hm1.dict.setOther D.place (.slice none 0 0) hgp;have f1:Far (fun k=>k=g0) w1 (w1.setCell ⟨g0,D.place,none⟩ (.slice none 0 0)):=(Far.refl _ _).set _ _ (.inl rfl)
 have f2:Far (fun k=>k=p) (w1.setCell ⟨g0,D.place,none⟩ (.slice none 0 0)) (((((w1.setCell ⟨g0,D.place,none⟩ (.slice none 0 0)).setCell ⟨p,3,none⟩ (.int .i64 (D.place+1:Nat))).setCell ⟨p,0,none⟩ (.slice A1 D.b.length D.b.length)).setCell ⟨p,1,none⟩ (.slice none 0 0)).setCell ⟨p,3,none⟩ (.int .i64 0)) :=
  ((((Far.refl (fun k=>k=p) _).set ⟨p,3,none⟩ _ (.inl rfl)).set ⟨p,0,none⟩ _ (.inl rfl)).set ⟨p,1,none⟩ _ (.inl rfl)).set ⟨p,3,none⟩ _ (.inl rfl)
 refine Went.mk' (g0:=g1) (g1:=g1) (A1:=none) (va:=vb') (vb:=[]) ⟨?_,?_,.inl ⟨rfl,rfl,rfl⟩,?_⟩ ?_ (.inl hf.p) (.inl (hf.g1 hb)) (fun h=>absurd rfl h) ?_
 ·have:=(((hbl.set 3 (.int .i64 (D.place+1:Nat))).set 0 (.slice A1 D.b.length D.b.length)).set 1 (.slice none 0 0)).set 3 (.int .i64 0)
  simpa [hA,Yp] using this
 ·refine TabAt.past Kl ?_ f2 hbl;refine htb.far f1 ?_;rintro k (rfl|⟨v,hv,hk⟩) rfl
  ·exact hg rfl
  ·obtain ⟨r,hr⟩:=htb.mem hv;obtain ⟨c,hc⟩:=hr.blk hk;exact absurd (hm1.ta.blk.ty hc) (by decide)
 ·rw [List.append_nil];exact hm1.sep.right
 ·refine (((((hF.mono (S1:=S) ?_).set _ _ (.inl hf.g0)).set _ _ (.inl hf.p)).set _ _ (.inl hf.p)).set _ _ (.inl hf.p)).set _ _ (.inl hf.p);rintro k (rfl|⟨u,hu,hk⟩)
  ·exact hf.g1 hb
  ·exact hf.row u (List.mem_append_right _ hu) k hk
 ·intro v hv k hk;rw [List.append_nil] at hv;rcases hI v hv k hk with ⟨u0,h1,h2⟩|h1
  ·exact .inl (hf.row u0 (List.mem_append_right _ h1) k h2)
  ·exact .inr h1
theorem Aq(h:Rep tyI w p S seed D)(ok:D.Ok tyI)(hb:D.b≠[])(hn:D.n<=1000000) :
 Calls Tryz.prog 226 #[.pointer (some ⟨p,0,none⟩),.int .i64 D.place] w fun e w'=>e=.returned (.tuple #[])/\Went tyI S w p seed D.move1 w':=by
 obtain ⟨g0,g1,A1,va,vb,hm,hf,hc⟩:=h;obtain ⟨c0,c1,c2,c3,c4,f0,f1,f3,f4⟩:=Zy hm;have hpl:=ok.place hb;have hvl:va.length=D.a.length:=hm.ta.len;obtain ⟨v,hv⟩:∃ v,va[D.place]?=some v:=⟨_,lAa (by omega)⟩;have hr:=hm.ta.row _ _ _ hv (lAa hpl);have hgd:D.a.getD D.place []=D.a[D.place]:=by rw [List.getD_eq_getElem?_getD,lAa hpl];rfl
 rw [<- hgd] at hr;rcases hm.tb with ⟨h,_⟩|⟨_,rfl,hg,htb⟩
 ·exact absurd h hb
 have hcell:∀ W,(Blk W g0 301 va.toArray)->W.cell? ⟨g0,D.place,none⟩=some v/\W.frozen? ⟨g0,D.place,none⟩=false:=fun W hB=>⟨by rw [hB.cell];simpa using hv,hB.free _⟩;obtain ⟨d0,d1⟩:=hcell w hm.ta.blk
 have htot:D.b.flatten.length+(D.a.getD D.place []).length<=1000000:=by
  have h1:=Gg D.a (D.a.getD D.place []) (by rw [hgd];exact List.getElem_mem hpl);have h2:=ok.n;omega
 have hdr:Bl w w.drew:=(Below.refl _ _).drew;have hmd:=hm.later hdr;have htbd:=htb.later hdr
 have HPUT:=jY (Mt g1 vb D.b v (D.a.getD D.place []) w.drew htbd hm.sep.right (ok.b hb) (hr.far (S:=fun _=>False) (Far.of_below hdr) fun _ _ h=>h) (fun u hu k hk hk2=>Sep.apart hm.sep (lAc hv) hu hk2 hk)
  (ok.fine _ (.inl (by rw [hgd];exact List.getElem_mem hpl))) htot)
 have hal:=Zp ok.a;have hpl2:(D.place:Int)<D.a.length:=by omega
 have hgp:p≠g0:=fun e=>by have h1:=hm.dict;rw [e] at h1;exact absurd (h1.ty hm.ta.blk) (by decide)
 have hgp':g0≠p:=fun e=>hgp e.symm;have HMID:=fun w1 hP=>jY (Ar hmd hb (w1:=w1) hP);have HON:=fun vb' w1 hm1 hI hF hl=>jY (Went.since hdr (z5b (vb':=vb') (A1:=some ⟨g1,0,none⟩) (seed:=seed) hf hb (w:=w.drew) (w1:=w1) hm1 hI hF hl));have HLAST:=fun vb' w1 hm1 hI hF hl=>jY (Went.since hdr (Ds (vb':=vb') (A1:=some ⟨g1,0,none⟩) (seed:=seed) hf hb (w:=w.drew) (w1:=w1) hm1 hI hF hl));have HC:=fun W hB=>jY (hcell W hB);clear hm hf hc hmd htbd htb hr hv hcell hvl
 go_enter Tryz.func226,Tryz.ntmps226
 go_wp2
 go_still_tail 13,(by kernel_rfl)
 change wpList _ _ _ _ _ w.drew;go_wp2_with fail;refine HPUT.out.mono ?_;rintro e w1 ⟨rfl,hP⟩;obtain ⟨vb',hm1,hI,hF⟩:=(HMID _ hP).out;obtain ⟨k0,k1,k2,k3,k4,l0,l1,l3,l4⟩:=Zy hm1;obtain ⟨e0,e1⟩:=(HC _ hm1.ta.blk).out;have HON':=HON vb' w1 hm1 hI hF;have HLAST':=HLAST vb' w1 hm1 hI hF;simp only [Yp] at k1;clear HON HLAST HC HMID HPUT hm1 hI hF hP hgd
 by_cases hl:D.place+1=D.a.length
 ·have hl2:(D.place:Int)+1=D.a.length:=by omega
  have HL:=HLAST' hl;clear HON' HLAST' hl;have hl3:=jY hl2;have hl4:((D.place:Int)+1==D.a.length)=true:=by rw [hl2];simp
  clear hl2;go_wp2
  go_quiet (fail)
  go_wp2;go_returns;exact ⟨rfl,HL.out.later ⟨rfl,rfl,rfl,lAd _,fun _ _=>rfl⟩⟩
 ·have hl2:((D.place:Int)+1==D.a.length)=false:=by rw [beq_eq_false_iff_ne];omega
  have HL:=HON' hl;clear HON' HLAST' hl;go_wp2
  go_quiet (fail)
  go_wp2;go_returns;exact ⟨rfl,HL.out.later ⟨rfl,rfl,rfl,lAd _,fun _ _=>rfl⟩⟩
end
def Dc.left(D:Dc):Nat:=if D.b=[] then 0 else D.a.length-D.place
def Dc.run:Nat->Dc->Dc
 | 0,D=>D
 | k+1,D=>(Dc.run k D).move1
def Dc.step(n:Nat)(D:Dc):Dc:=Dc.run (min n D.left) D
theorem z5o{rows:List (List Nd)}(h:rows≠[])(xs:List Nd):Xe rows xs≠[]:=fun e=>by
 have:=congrArg List.length e
 rw [Yp] at this;exact h (List.eq_nil_of_length_eq_zero (by simpa using this))
theorem B5(rows:List (List Nd)):∀ i,(rows.set i []).flatten.length+(rows.getD i []).length=rows.flatten.length:=by
 induction rows with
 | nil=>intro i;simp
 | cons y rows ih =>
   intro i
   cases i with
   | zero=>simp;omega
   | succ i=>have:=ih i;simp at this ⊢;omega
theorem C3{T:Ty}(rows:List (List Nd))(x:Nd)(hx:x.fine T)(h:∀ r∈rows,∀ y∈r,y.fine T):∀ r∈Vs rows x,∀ y∈r,y.fine T:=by
 intro r hr y hy;unfold Vs at hr;rcases List.mem_or_eq_of_mem_set hr with h1|rfl
 ·exact h r h1 y hy
 ·rcases List.mem_append.1 hy with h1|h1
  ·rw [List.getD_eq_getElem?_getD] at h1
   cases hg:rows[x.sum % rows.length]? with
   | none=>rw [hg] at h1;simp at h1
   | some r0=>rw [hg] at h1;exact h r0 (lAc hg) y h1
  ·simp at h1;subst h1;exact hx
theorem y8q{T:Ty}(xs:List Nd):∀ rows:List (List Nd),(∀ x∈xs,x.fine T)->(∀ r∈rows,∀ y∈r,y.fine T)->∀ r∈Xe rows xs,∀ y∈r,y.fine T:=by
 induction xs with
 | nil=>intro rows _ h;exact h
 | cons x xs ih=>intro rows hx h;exact ih (Vs rows x) (fun y hy=>hx y (List.mem_cons_of_mem _ hy)) (C3 rows x (hx x (List.mem_cons_self ..)) h)
theorem Gx{rows:List (List Nd)}{i:Nat}{x:Nd}(h:x∈rows.getD i []):∃ r∈rows,x∈r:=by
 rw [List.getD_eq_getElem?_getD] at h
 cases hg:rows[i]? with
 | none=>rw [hg] at h;simp at h
 | some r0=>rw [hg] at h;exact ⟨r0,lAc hg,h⟩
theorem Gw(rows:List (List Nd))(h:∀ i,i<rows.length->rows.getD i []=[]):rows.flatten.length=0:=by
 induction rows with
 | nil=>rfl
 | cons y rows ih =>
   have h0:=h 0 (by simp);have h1:=ih fun i hi=>by have:=h (i+1) (by simp;omega);simpa using this
   simp at h0 h1 ⊢;exact ⟨h0,h1⟩
theorem O8(rows:List (List Nd))(i j:Nat)(r:List Nd)(h:j≠i):(rows.set i r).getD j []=rows.getD j []:=by
 rw [List.getD_eq_getElem?_getD,List.getD_eq_getElem?_getD,List.getElem?_set_ne (fun e=>h e.symm)]
theorem Mk(rows:List (List Nd))(i:Nat):(rows.set i []).getD i []=[]:=by
 rw [List.getD_eq_getElem?_getD,List.getElem?_set,if_pos rfl]
 split <;> rfl
theorem Dc.Ok.move1{T:Ty}{D:Dc}(h:D.Ok T)(hb:D.b≠[]):D.move1.Ok T:=by
 have hp:=h.place hb;have hf:∀ x∈D.a.getD D.place [],x.fine T:=fun x hx=>by obtain ⟨r,hr,hx⟩:=Gx hx;exact h.fine r (.inl hr) x hx
 have hput:=y8q _ D.b hf (fun r hr=>h.fine r (.inr hr));have hlen:=Yp (D.a.getD D.place []) D.b;have hbl:=Zp (h.b hb);have htot:=Gc (D.a.getD D.place []) D.b (by omega);have hset:=B5 D.a D.place;unfold Dc.move1
 split
 ·rename_i hl;refine ⟨by rw [hlen];exact h.b hb,fun e=>absurd rfl e,fun e=>absurd rfl e,fun _=>rfl,fun i hi=>absurd hi (Nat.not_lt_zero _),?_,?_⟩
  ·simp only [List.flatten_nil,List.length_nil]
   have:=h.n
   have h0:=Gw (D.a.set D.place []) (fun i hi=>by
    rw [List.length_set] at hi
    by_cases e:i=D.place
    ·subst e;exact Mk _ _
    ·rw [O8 _ _ _ _ e];exact h.past i (by omega))
   omega
  ·intro r hr x hx;rcases hr with hr|hr
   ·exact hput r hr x hx
   ·simp at hr
 ·rename_i hl;refine ⟨by rw [List.length_set];exact h.a,fun _=>by rw [hlen];exact h.b hb,fun _=>by rw [List.length_set];show D.place+1<_;omega,fun e=>absurd e (z5o hb _),fun i hi=>?_,?_,?_⟩
  ·have hi':i<D.place+1:=hi;show (D.a.set D.place []).getD i []=[]
   by_cases e:i=D.place
   ·subst e;exact Mk _ _
   ·rw [O8 _ _ _ _ e];exact h.past i (by omega)
  ·show D.n=(D.a.set D.place []).flatten.length+(Xe D.b _).flatten.length
   have:=h.n
   omega
  ·intro r hr x hx;rcases hr with hr|hr
   ·rcases List.mem_or_eq_of_mem_set hr with h1|rfl
    ·exact h.fine r (.inl h1) x hx
    ·simp at hx
   ·exact hput r hr x hx
theorem y1z{T:Ty}{D:Dc}(h:D.Ok T)(hb:D.b≠[]):D.move1.left=D.left-1/\0<D.left/\(1<D.left->D.move1.b≠[]/\D.move1.place=D.place+1):=by
 have hp:=h.place hb;have hl:D.left=D.a.length-D.place:=by unfold Dc.left;rw [if_neg hb]
 unfold Dc.move1
 split
 ·rename_i e;refine ⟨?_,by omega,fun h1=>by omega⟩;rw [hl];unfold Dc.left;rw [if_pos rfl];omega
 ·rename_i e;refine ⟨?_,by omega,fun h1=>⟨z5o hb _,rfl⟩⟩;rw [hl];unfold Dc.left;rw [if_neg (z5o hb _)];simp only [List.length_set];omega
theorem x8r(D:Dc):D.move1.n=D.n:=by unfold Dc.move1;split <;> rfl
theorem Pe{T:Ty}{D:Dc}(h:D.Ok T):∀ k,k<=D.left->(Dc.run k D).Ok T/\(Dc.run k D).left=D.left-k/\(Dc.run k D).n=D.n/\(k<D.left->(Dc.run k D).b≠[]/\(Dc.run k D).place=D.place+k):=by
 intro k
 induction k with
 | zero =>
   intro _;refine ⟨h,rfl,rfl,fun h0=>⟨fun e=>?_,rfl⟩⟩;have h1:0<D.left:=h0;unfold Dc.left at h1;rw [if_pos (show D.b=[] from e)] at h1;exact absurd h1 (Nat.lt_irrefl 0)
 | succ k ih =>
   intro hk;obtain ⟨h1,h2,h3,h4⟩:=ih (by omega);obtain ⟨h5,h6⟩:=h4 (by omega);obtain ⟨h7,h8,h9⟩:=y1z h1 h5;refine ⟨h1.move1 h5,?_,(x8r _).trans h3,fun hlt=>?_⟩
   ·show (Dc.run k D).move1.left=_;omega
   ·obtain ⟨h10,h11⟩:=h9 (by omega);refine ⟨h10,?_⟩;show (Dc.run k D).move1.place=_;omega
def z7b(_:Nat)(x:Nat):Array Value:=#[.int .i64 x]
section
variable {S:Nat->Prop} {p seed:Nat} {D:Dc} {w:World}
theorem Jo(h:Rep tyI w p S seed D)(ok:D.Ok tyI)(L:List Nat):y6s Tryz.prog 225 #[.pointer (some ⟨p,0,none⟩)] #[] z7b (List.range' D.place D.left) L w:=by
 intro l J Jx W hW hJ hJx hY hJ0;have hR:=h.later hW;have hmv:=Vb hR;refine callsIn_of_wp Tryz.func225 rfl trivial ?_ rfl;simp only [Tryz.ntmps225,List.size_toArray,List.length_cons,List.length_nil,Nat.reduceAdd,Nat.reduceSub,Array.replicate_succ,Array.replicate_zero,List.push_toArray,List.append_toArray,List.nil_append,List.cons_append,List.append_nil];have HY:=jY hY;clear hY;obtain ⟨g0,g1,A1,va,vb,hm,_,_⟩:=hR;obtain ⟨c0,c1,c2,c3,c4,f0,f1,f3,f4⟩:=Zy hm
 cases hb:D.moving with
 | false =>
   have hl:D.left=0:=by unfold Dc.left;rw [if_pos ((Yt D).1 hb)]
   rw [hb] at hmv;have HM:=jY hmv;have HL:=jY hl;clear hmv hm hb hl h ok
   gi_wp2_with fail
   refine ⟨trivial,?_⟩;refine callsIn_wide.2 (Calls.mono HM.out ?_);rintro e w1 ⟨rfl,rfl⟩;gi_wp2;go_returns;exact ⟨⟨_,rfl⟩,.inl (by rw [HL.out];exact hJ0)⟩
 | true =>
   have hbn:=x7g hb;have hpl:=ok.place hbn;have hl:D.left=D.a.length-D.place:=by unfold Dc.left;rw [if_neg hbn]
   have hal:=(Zp ok.a).2;rw [hb] at hmv;have HM:=jY hmv;clear hmv hm hb h ok;have hpl2:(D.place:Int)<D.a.length:=by omega
   gi_wp2_with fail
   refine ⟨trivial,?_⟩;refine callsIn_wide.2 (Calls.mono HM.out ?_);rintro e w1 ⟨rfl,rfl⟩;gi_wp2
   gi_loopw [5] (fun s wr=>∃ (i:Nat),s=.int .i64 (D.place+i:Nat)/\i<=D.left/\J i wr) (fun s _=>D.a.length-(intOf s).toNat)
   case atStart=>exact ⟨0,rfl,by omega,hJ0⟩
   case round =>
    clear c0 c1 c2 c3 c4 f0 f1 f3 f4;obtain ⟨i,rfl,hi,hJi⟩:=hrel
    by_cases hlt:i<D.left
    ·have hx:(List.range' D.place D.left)[i]?=some (D.place+i):=by rw [List.getElem?_range' hlt];simp
     obtain ⟨fn,tmps,assign,body,hy,hRd⟩:=HY.out i _ wr hx hJi;unfold z7b at hy;have hq:((D.place+i:Nat):Int)<D.a.length:=by omega
     have hq2:((D.place+i:Nat):Int)<=65536:=by omega
     have HI:=jY hi;have HL:=jY hl;clear hl hx;generalize hs:D.place+i=s at *;have HS:=jY hs;clear hs
     gi_wp2_with fail
     (try refine ⟨fun _=>by decide,?_⟩)
     refine hRd.mono ?_;rintro e W3 (⟨rfl,hJ3,hk3⟩|⟨rfl,hJx3⟩)
     ·clear hRd hy;gi_wp2
      have:=HS.out
      refine ⟨⟨i+1,by congr 1;omega,hlt,hJ3⟩,?_⟩;simp only [intOf];omega
     ·gi_wp2
      go_end0
      exact ⟨⟨_,rfl⟩,.inr ⟨_,hJx3⟩⟩
    ·obtain rfl:i=D.left:=by omega
     have hq:¬ ((D.place+D.left:Nat):Int)<D.a.length:=by omega
     gi_wp2;refine ⟨fun _ h=>(by cases h),?_⟩;gi_wp2
     go_end0
     exact ⟨⟨_,rfl⟩,.inl (by rw [List.length_range'];exact hJi)⟩
theorem Yx{T:Ty}{W:World}{k:Nat}{t:TypeId}{c:Array Value}(h:Blk W k t c)(ht:¬ (t=T.d\/t=T.t\/t=T.r)):¬ CellB T W k:=fun ⟨t',c',h1,h2⟩=>ht (by rw [h.ty h2];exact h1)
theorem Went.blk{T:Ty}{S:Nat->Prop}{w W:World}{p seed:Nat}{D:Dc}(h:Went T S w p seed D W){k:Nat}{t:TypeId}{c:Array Value}(hk:Blk w k t c)(hS:∀ k,S k->CellB T w k)(ht:¬ (t=T.d\/t=T.t\/t=T.r)):Blk W k t c :=
 h.2.blk hk fun hs=>Yx hk ht (hS k hs)
theorem Xq{T:Ty}{β:Type}(B:Nat){S:Nat->Prop}{w:World}(hB:w.heap.size<=B)(p seed:Nat)(D:β->Dc):OwnFrom B (fun s W=>Went T S w p seed (D s) W):=fun s X Y row hs hg hr=>by
 have hf:Far (fun k=>row=some k) X Y:=Far.of_grown hg fun k e=>.inl e
 have hR:Rep T Y p (V3 T S w X) seed (D s):=hs.1.far hf fun k hk e=>by
  obtain ⟨_,o,ho,hc⟩:=hr k e;obtain ⟨t,c,_,hb⟩:=hk.2;rw [show X.heap[k]?=_ from hb] at ho
  cases ho;cases hc
 exact ⟨hR.wide (fun k hk=>⟨hk.1,hR.cells k hk⟩) (fun _ hk=>hk.2),hs.2.trans hf fun k e=>.inr (by have:=(hr k e).1;omega)⟩
theorem v3s:¬ itT tyI.d/\¬ itT tyI.t/\¬ itT tyI.r:=by unfold itT tyI;decide
theorem M3(h:Rep tyI w p S seed D)(ok:D.Ok tyI)(hn:D.n<=1000000)(n:Int) :
 Calls Tryz.prog 213 #[.pointer (some ⟨p,0,none⟩),.int .i64 n] w fun e w'=>e=.returned (.int .i64 (min n.toNat D.left:Nat))/\Went tyI S w p seed (D.step n.toNat) w':=by
 refine (callsIn_wide (n:=6)).1 (callsIn_of_wp_marks Tryz.func213 rfl trivial ?_ rfl);refine wpIn_wide.2 ?_;simp only [Tryz.ntmps213,List.size_toArray,List.length_cons,List.length_nil,Nat.reduceAdd,Nat.reduceSub,Array.replicate_succ,Array.replicate_zero,List.push_toArray,List.append_toArray,List.nil_append,List.cons_append];have hal:=(Zp ok.a).2;have hll:D.left<=65536:=by unfold Dc.left;split <;> omega
 have hfacts:=fun k hk=>jY (Pe ok k hk);go_wp2;refine wp_scope_straight ?_;go_wp2;refine wp_label ?_;go_wp2;have k1:=((Blk.new w 216 #[Value.pointer (some ⟨p,0,none⟩)]).alloc (Obj.cells #[Value.int .i64 n] 3)).alloc (Obj.cells #[Value.int .i64 0] 3);have k2:=(Blk.new (w.alloc (Obj.cells #[Value.pointer (some ⟨p,0,none⟩)] 216)) 3 #[Value.int .i64 n]).alloc (Obj.cells #[Value.int .i64 0] 3);have k3:=Blk.new ((w.alloc (Obj.cells #[Value.pointer (some ⟨p,0,none⟩)] 216)).alloc (Obj.cells #[Value.int .i64 n] 3)) 3 #[Value.int .i64 0];simp only [World.size_alloc] at k2 k3;have hB:=(((Below.refl w.heap.size w).alloc (lAd _) (Obj.cells #[Value.pointer (some ⟨p,0,none⟩)] 216)).alloc (by simp) (Obj.cells #[Value.int .i64 n] 3)).alloc (by simp;omega) (Obj.cells #[Value.int .i64 0] 3);have hsz:(((w.alloc (Obj.cells #[Value.pointer (some ⟨p,0,none⟩)] 216)).alloc (Obj.cells #[Value.int .i64 n] 3)).alloc (Obj.cells #[Value.int .i64 0] 3)).heap.size=w.heap.size+3:=by simp
 generalize (((w.alloc (Obj.cells #[Value.pointer (some ⟨p,0,none⟩)] 216)).alloc (Obj.cells #[Value.int .i64 n] 3)).alloc (Obj.cells #[Value.int .i64 0] 3))=w1 at *
 refine (wpIn_wide (n:=6)).1 (Fj (gf:=225) (fb:=#[.pointer (some ⟨p,0,none⟩)]) (lb:=#[]) (encs:=z7b) (xs:=List.range' D.place D.left) (L:=[w.heap.size+2]) rfl (enters_of Tryz.func225 (by kernel_rfl) rfl) (Jo (h.later hB) ok _) (fun _ _=>rfl)
  (fun i W=>(i:Int)<=n.toNat/\i<=D.left/\Went tyI S w p seed (Dc.run i D) W/\Blk W w.heap.size 216 #[.pointer (some ⟨p,0,none⟩)]/\Blk W (w.heap.size+1) 3 #[.int .i64 n]/\Blk W (w.heap.size+2) 3 #[Value.int IntKind.i64 i])
  (fun c _ W=>match c with
    | .exit id=>id=0/\n.toNat<=D.left/\Went tyI S w p seed (Dc.run n.toNat D) W/\Blk W (w.heap.size+2) 3 #[.int .i64 n.toNat]
    | _=>False)
  ?hI ?hIx ?h0 (fun i x a' W=>a'={ tmps:=#[Value.pointer (some ⟨p,0,none⟩),Value.int IntKind.i64 n,Value.pointer (some { block:=w.heap.size,off:=0 }),Value.pointer (some { block:=w.heap.size+1,off:=0 }),
   Value.int IntKind.i64 0,Value.pointer (some { block:=w.heap.size+2,off:=0 }),Value.int IntKind.i64 x,Value.pointer (some ⟨p,0,none⟩),Value.func (Fn.func 225) #[Value.pointer (some ⟨p,0,none⟩)] #[],Value.int IntKind.i64 x,
   undef,undef,undef,undef,undef,undef,undef,undef,undef],defers:=[] })
  (fun _ _ _=>Z4 _ _) ?assign ?body ?done ?stop)
 case hI=>exact (Z4 _ _).and ((Z4 _ _).and ((Xq _ (by omega) _ _ _).and ((Zh _ _ _ _).and ((Zh _ _ _ _).and (Zh _ _ _ _)))))
 case hIx =>
  intro c
  cases c with
  | exit id=>exact (Z4 _ _).and ((Z4 _ _).and ((Xq _ (by omega) _ _ (fun _=>_)).and (Zh _ _ _ _)))
  | _=>exact Z4 _ _
 case h0=>exact ⟨by omega,by omega,(Went.start h).later hB,k1,k2,k3⟩
 case assign =>
  rintro l i x W K hx' ⟨hi,hi2,q0,q1,q2,q3⟩ hK;unfold z7b;gi_wp2;exact hK _ _ (KeepsFrom.refl _ _) (KeepC.refl _ _) ⟨hi,hi2,q0,q1,q2,q3⟩ rfl
 case body =>
  rintro l i x a' W hx' ⟨hi,hi2,q0,q1,q2,q3⟩ rfl;obtain ⟨hlt,hxe⟩:=lAb.1 hx';rw [List.length_range'] at hlt;rw [List.getElem_range'] at hxe;obtain rfl:x=D.place+i:=by omega
  obtain ⟨ok1,_,hn1,hfi⟩:=(hfacts i hi2).out;obtain ⟨hbi,hpi⟩:=hfi hlt;obtain ⟨c1,d1⟩:=Z5 q1;obtain ⟨c2,d2⟩:=Z5 q2;obtain ⟨c3,d3⟩:=Z5 q3;have hMV:=Aq q0.1 ok1 hbi (by omega);rw [hpi] at hMV;have HMV:=jY hMV;have Q0:=jY q0;have Q1:=jY q1;have Q2:=jY q2;have Q3:=jY q3;clear hMV hxe k1 k2 k3 q0 q1 q2 q3 hpi hx' hn1;have hi3:(i:Int)<=65536:=by omega
  by_cases hni:n<=(i:Int)
  ·have hin:n.toNat=i:=by omega
   gi_wp2;refine ⟨KeepsFrom.refl _ _,rfl,by omega,?_,?_⟩
   ·rw [hin];exact Q0.out
   ·rw [hin];exact Q3.out
  ·have hni2:(i:Int)<n:=by omega
   clear hni
   gi_wp2_with fail
   (try refine ⟨trivial,?_⟩)
   refine (CallsIn.inRound l (callsIn_wide.2 HMV.out)).mono ?_;rintro e W2 ⟨rfl,hw⟩;have q1':=hw.blk Q1.out (fun k hk=>hk.2) (by decide);have q2':=hw.blk Q2.out (fun k hk=>hk.2) (by decide);have q3':=hw.blk Q3.out (fun k hk=>hk.2) (by decide);obtain ⟨e3,g3⟩:=Z5 q3';have hkf:=hw.2.keeps (fun k hk=>hk.2) w1.heap.size;have hkc:=hw.2.keepc (fun k hk=>hk.2) v3s [w.heap.size+2];have HW:=jY (Q0.out.trans hw);have P1:=jY q1';have P2:=jY q2';have P3:=jY q3';clear hw q1' q2' q3';gi_wp2;refine ⟨hkf.trans ((KeepsOthers.setCell _ _ _).from _),hkc.trans (KeepC.set _ _ _ _ (by simp)),by omega,hlt,?_,?_,?_,?_⟩
   ·have hz:=HW.out.2.size
    have:=(HW.out.1.far (S1:=fun k=>k=w.heap.size+2) (W':=W2.setCell ⟨w.heap.size+2,0,none⟩ (.int .i64 ((i:Int)+1))) ((Far.refl _ _).set _ _ (.inl rfl)) (fun k hk e=>by subst e;exact Yx P3.out (by decide) hk.2))
    exact ⟨this.wide (fun k hk=>⟨hk.1,this.cells k hk⟩) (fun _ hk=>hk.2),HW.out.2.set _ _ (.inr (by simp))⟩
   ·exact P1.out.setOther 0 _ (by omega)
   ·exact P2.out.setOther 0 _ (by omega)
   ·exact P3.out.set 0 _
 case done =>
  rintro Dd W hD ⟨hi,hi2,q0,q1,q2,q3⟩ hK;rw [List.length_range'] at *;obtain ⟨c3,d3⟩:=Z5 q3;have HK:=jY hK;have Q0:=jY q0;clear hK q0 q1 q2 q3 k1 k2 k3;have hmin:min n.toNat D.left=D.left:=by omega
  simp only [Exit.inBlock,Exit.then];go_wp2;refine Y5 (v:=.int .i64 D.left) rfl HK.out (by simp [results,Tryz.results213,go_sem]) ⟨by rw [hmin],?_⟩;unfold Dc.step;rw [hmin];exact (Xq (β:=Unit) w.heap.size (lAd _) p seed (fun _=>_)).putObj (s:=()) _ Q0.out (by omega) HK.out rfl
 case stop =>
  rintro Dd c j W hD hI hK
  cases c with
  | exit id =>
    obtain ⟨rfl,hi2,q0,q3⟩:=hI;obtain ⟨c3,d3⟩:=Z5 q3;have HK:=jY hK;have Q0:=jY q0;clear hK q0 q3 k1 k2 k3;have hmin:min n.toNat D.left=n.toNat:=by omega
    refine wpIn_wide.2 ?_;go_wp2;refine Y5 (v:=.int .i64 (n.toNat:Nat)) rfl HK.out (by simp [results,Tryz.results213,go_sem]) ⟨by rw [hmin],?_⟩;unfold Dc.step;rw [hmin];exact (Xq (β:=Unit) w.heap.size (lAd _) p seed (fun _=>_)).putObj (s:=()) _ Q0.out (by omega) HK.out rfl
  | _=>exact hI.elim
end
def z0z(_:Nat)(x:Nat × Nat):Array Value:=#[.pointer (some ⟨x.1,x.2,none⟩)]
def Dc.slots(D:Dc)(g0 g1 sum:Nat):List (Nat × Nat):=(g0,sum % D.a.length) :: if D.b=[] then [] else [(g1,sum % D.b.length)]
section
variable {S:Nat->Prop} {p seed:Nat} {D:Dc} {w:World}
theorem C9(sum:Nat)(w:World):Calls Tryz.prog 214 #[.pointer (some ⟨p,0,none⟩),.int .u32 sum] w fun e w' =>
 e=.returned (.func (.func 227) #[] #[.pointer (some ⟨w.heap.size,0,none⟩),.pointer (some ⟨w.heap.size+1,0,none⟩)])/\w'=(w.alloc (Obj.cells #[.pointer (some ⟨p,0,none⟩)] 216)).alloc (Obj.cells #[.int .u32 sum] 24):=by
 go_enter Tryz.func214,Tryz.ntmps214
 go_wp2;go_ret;exact ⟨rfl,rfl⟩
theorem Jh{n:Nat}(s:Nat)(h:isS (n:Int)=true):Ip s n=.tuple #[.int .i64 (s % n:Nat),.int .i64 0]:=by
 unfold Ip;rw [if_pos h];simp
theorem z0k(s:Nat):Ip s ((0:Nat):Int)=.tuple #[.int .i64 0,.int .i64 2]:=by
 have:isS (0:Int)=false:=by decide +kernel
 unfold Ip;simp [this]
theorem y1q(a:Option Addr)(n c:Nat)(a':Option Addr)(n' c':Nat)(W:World):(Instr.index 268 (.agg #[.slice a n c,.slice a' n' c']) (.int .i64 0)).run Tryz.prog W=.ok (.slice a n c) W:=by
 simp [Instr.index,run_underlying Tryz.underlying268,asIntOf,go_sem]
theorem y1r(a:Option Addr)(n c:Nat)(a':Option Addr)(n' c':Nat)(W:World):(Instr.index 268 (.agg #[.slice a n c,.slice a' n' c']) (.int .i64 1)).run Tryz.prog W=.ok (.slice a' n' c') W:=by
 simp [Instr.index,run_underlying Tryz.underlying268,asIntOf,go_sem]
theorem Gk{g0 g1:Nat}{A1:Option Addr}{va vb:List Value}(h:Mem tyI w p g0 g1 A1 va vb seed D)(ok:D.Ok tyI)(sum:Nat)(hs:sum<4294967296)(B1 B2:Nat)(h1:Blk w B1 216 #[.pointer (some ⟨p,0,none⟩)])(h2:Blk w B2 24 #[.int .u32 sum])(L:List Nat)(hL1:B1 ∉ L)(hL2:B2 ∉ L) :
 Cv itT Tryz.prog 227 #[.pointer (some ⟨B1,0,none⟩),.pointer (some ⟨B2,0,none⟩)] z0z (D.slots g0 g1 sum) L w:=by
 intro l J Jx W hW hJ hJx hY hJ0;have hm:=h.later hW;have k1:=h1.later hW;have k2:=h2.later hW;obtain ⟨c0,c1,c2,c3,c4,f0,f1,f3,f4⟩:=Zy hm;obtain ⟨d1,e1⟩:=Z5 k1;obtain ⟨d2,e2⟩:=Z5 k2;have hal:=Zp ok.a;have HI0:=fun w=>O1 sum hs D.a.length w;rw [Jh sum ok.a] at HI0;have hlt0:sum % D.a.length<D.a.length:=Nat.mod_lt _ (by omega);have hlt0':((sum % D.a.length:Nat):Int)<D.a.length:=by omega
 have hsl0:(D.slots g0 g1 sum)[0]?=some (g0,sum % D.a.length):=rfl;have HI1:=fun w=>O1 sum hs D.b.length w
 have hbl:D.b.length<=65536:=by
  by_cases hb:D.b=[]
  ·rw [hb];simp
  ·have:=Zp (ok.b hb);omega
 refine callsIn_of_wp Tryz.func227 rfl trivial ?_ rfl;simp only [Tryz.ntmps227,List.size_toArray,List.length_cons,List.length_nil,Nat.reduceAdd,Nat.reduceSub,Array.replicate_succ,Array.replicate_zero,List.push_toArray,List.append_toArray,List.nil_append,List.cons_append]
 have HA:Hid (D.b≠[]->A1=some ⟨g1,0,none⟩):=jY (fun hb=>by
  rcases hm.tb with ⟨h,_⟩|⟨_,h,_⟩
  ·exact absurd h hb
  ·exact h)
 have HY:=jY hY;clear hY hm h h1 h2;have HK1:=jY k1;have HK2:=jY k2;have HL0:=jY hsl0;clear k1 k2 hsl0;generalize sum % D.a.length=j0 at *;have hx0:=y1q;have hx1:=y1r;gi_wp2
 gi_loopw [12] (fun s wr=>∃ (i:Nat),s=.int .i64 i/\i<=2/\Blk wr B1 216 #[.pointer (some ⟨p,0,none⟩)]/\Blk wr B2 24 #[.int .u32 sum]/\(i=0/\J 0 wr\/i=1/\J 1 wr\/i=2/\J (D.slots g0 g1 sum).length wr)) (fun s _=>2-(intOf s).toNat)
 case atStart=>exact ⟨0,rfl,by omega,HK1.out,HK2.out,.inl ⟨rfl,hJ0⟩⟩
 case round =>
  obtain ⟨i,rfl,hi,q1,q2,hJi⟩:=hrel;clear c0 c1 c2 c3 c4 f0 f1 f3 f4 d1 e1 d2 e2 HK1 HK2;obtain ⟨d1,e1⟩:=Z5 q1;obtain ⟨d2,e2⟩:=Z5 q2;have Q1:=jY q1;have Q2:=jY q2;clear q1 q2;rcases hJi with ⟨rfl,hJi⟩|⟨rfl,hJi⟩|⟨rfl,hJi⟩
  ·obtain ⟨fn,tmps,assign,body,hy,hRd⟩:=HY.out 0 _ wr HL0.out hJi;have HRd:=jY (HY.out 0 _ · HL0.out);clear hRd hy fn tmps assign body
   gi_wp2_with fail
   refine ⟨trivial,?_⟩;refine callsIn_wide.2 (Calls.mono (HI0 _) ?_);rintro e w2 ⟨rfl,hb2⟩;obtain ⟨fn,tmps,assign,body,hy,hRd⟩:=HRd.out w2 (hJ _ _ _ hJi hb2);unfold z0z at hy;have q1:=Q1.out.later hb2;have q2:=Q2.out.later hb2;have P1:=jY q1;have P2:=jY q2;clear q1 q2
   gi_wp2_with fail
   (try refine ⟨fun _=>by decide,?_⟩)
   refine hRd.mono ?_;rintro e W3 (⟨rfl,hJ3,hk3⟩|⟨rfl,hJx3⟩)
   ·have q1:=P1.out.keep hk3 hL1;have q2:=P2.out.keep hk3 hL2;clear hRd hy;gi_wp2;refine ⟨⟨1,rfl,by omega,q1,q2,.inr (.inl ⟨rfl,hJ3⟩)⟩,?_⟩;simp [intOf]
   ·gi_wp2;go_returns;exact ⟨⟨_,rfl⟩,.inr ⟨_,hJx3⟩⟩
  ·by_cases hb:D.b=[]
   ·have hln:(D.slots g0 g1 sum).length=1:=by unfold Dc.slots;rw [if_pos hb];rfl
    have hb0:D.b.length=0:=by rw [hb];rfl
    rw [hb0] at HI1;rw [z0k] at HI1;have HN:=jY hln;have HB:=jY hb;clear hb hln;rw [hb0];clear hb0
    gi_wp2_with fail
    refine ⟨trivial,?_⟩;refine callsIn_wide.2 (Calls.mono (HI1 _) ?_);rintro e w2 ⟨rfl,hb2⟩;have hJ2:=hJ _ _ _ hJi hb2;have q1:=Q1.out.later hb2;have q2:=Q2.out.later hb2;have P1:=jY q1;have P2:=jY q2;clear q1 q2;gi_wp2;refine ⟨fun _ h=>(by cases h),?_⟩;gi_wp2;refine ⟨⟨2,rfl,by omega,P1.out,P2.out,.inr (.inr ⟨rfl,by rw [HN.out];exact hJ2⟩)⟩,?_⟩;simp [intOf]
   ·have hln:(D.slots g0 g1 sum).length=2:=by unfold Dc.slots;rw [if_neg hb];rfl
    have hs1:(D.slots g0 g1 sum)[1]?=some (g1,sum % D.b.length):=by unfold Dc.slots;rw [if_neg hb];rfl
    obtain rfl:=HA.out hb;have hbs:=Zp (ok.b hb);rw [Jh sum (ok.b hb)] at HI1;have hlt1:sum % D.b.length<D.b.length:=Nat.mod_lt _ (by omega);have hlt1':((sum % D.b.length:Nat):Int)<D.b.length:=by omega
    have HN:=jY hln;have HS1:=jY hs1;clear hb hln hs1 hlt0 hlt0';generalize sum % D.b.length=j1 at *;have HRd:=jY (HY.out 1 _ · HS1.out)
    gi_wp2_with fail
    refine ⟨trivial,?_⟩;refine callsIn_wide.2 (Calls.mono (HI1 _) ?_);rintro e w2 ⟨rfl,hb2⟩;obtain ⟨fn,tmps,assign,body,hy,hRd⟩:=HRd.out w2 (hJ _ _ _ hJi hb2);unfold z0z at hy;have q1:=Q1.out.later hb2;have q2:=Q2.out.later hb2;have P1:=jY q1;have P2:=jY q2;clear q1 q2
    gi_wp2_with fail
    (try refine ⟨fun _=>by decide,?_⟩)
    refine hRd.mono ?_;rintro e W3 (⟨rfl,hJ3,hk3⟩|⟨rfl,hJx3⟩)
    ·have q1:=P1.out.keep hk3 hL1;have q2:=P2.out.keep hk3 hL2;clear hRd hy;gi_wp2;refine ⟨⟨2,rfl,by omega,q1,q2,.inr (.inr ⟨rfl,by rw [HN.out];exact hJ3⟩)⟩,?_⟩;simp [intOf]
    ·gi_wp2;go_returns;exact ⟨⟨_,rfl⟩,.inr ⟨_,hJx3⟩⟩
  ·gi_wp2
   go_end0
   exact ⟨⟨_,rfl⟩,.inl hJi⟩
end
end Go.Proofs.YtcklcmafohlflaaGreatDoor.Dc
namespace Go.Proofs.YtcklcmafohlflaaGreatDoor.Dc
open Zc
open Go Go.RowKit
section
variable {P:Program} {ops:Array Oper} {md:Region.Mode} {C:World->Prop} {n l:Nat}
def Mn(ops:Array Oper):Bool:=ops.all fun o=>match o.op with|.defer _=>false|_=>true
theorem Ga{ops:Array Oper}(h:Mn ops=true){i:Nat}{o:Oper}(ho:ops[i]?=some o)(c:Call):o.op≠.defer c:=fun e=>by
 have:=Array.all_eq_true'.1 h o (Array.mem_of_getElem? ho)
 simp [e] at this
theorem z1i{o:Oper}(hd:∀ c,o.op≠.defer c){a:Act}{K:Act->Prop}{K':Act->World->Prop}{Q':Exit->Act->World->Prop}{w:World}(hw:C w)(h:∀ a w',C w'->K a->K' a w')(hh:o.quiet P a C K) :
 o.wpIn (Fence.wide.inRound l) n P a w K' Q':=by
 obtain ⟨v,h1,h2⟩:=hh;have h3:=h1 w hw;unfold Oper.quietAt at h3;refine ⟨fun _ _=>trivial,?_⟩;rw [Oper.semAt_eq _ _ _ hd];generalize (execOp a.eval o).run P w=r at *
 cases r with
 | ok n w' =>
   cases n <;> simp only [Oper.quietUpon] at h3
   case value u =>
    obtain ⟨e1,e2⟩:=h3;rw [e1,e2,Oper.uponIn_value];exact h _ _ hw h2
   case skip =>
    obtain ⟨e1,e2⟩:=h3;rw [e1,Oper.uponIn_skip,<- e2];exact h _ _ hw h2
   case enter f args =>
    obtain ⟨e1,hc⟩:=h3;rw [e1,Oper.uponIn_enter];refine ⟨fun h=>by simp [Fence.wide] at h,(CallsIn.inRound l (callsIn_wide.2 hc)).mono ?_⟩;rintro e w'' ⟨he,hw''⟩;subst he;exact h _ _ hw'' h2
 | halt x w'=>simp only [Oper.quietUpon] at h3
theorem z1j(hp:Mn ops=true){i:Nat}{a:Act}{K:Act->Prop}{K':Act->World->Prop}{Q':Exit->Act->World->Prop}{w:World}(hC:C w)(h:∀ a w',C w'->K a->K' a w')(hh:qOp P ops C i K a) :
 wpOpIn (Fence.wide.inRound l) n P ops Q' i K' a w:=by
 unfold qOp at hh;unfold wpOpIn
 split
 ·rename_i ho;simp only [ho] at hh;exact h _ _ hC hh
 ·rename_i o ho;simp only [ho] at hh
  split
  ·rename_i hw;simp only [hw,if_true] at hh;exact z1i (Ga hp ho) hC h hh
  ·rename_i hw;simp only [hw] at hh;exact ⟨fun _ _=>trivial,h _ _ hC hh⟩
theorem M7(hp:Mn ops=true){Q:Act->Prop}{Q':Exit->Act->World->Prop}(hQ:∀ a w,C w->Q a->Q' .normal a w):∀ (fuel:Nat) (listed:Array Bool) (a:Act) (w:World),C w ->
 wpAnyQ P md ops C Q fuel listed a->wpAnyIn (Fence.wide.inRound l) n P md ops Q' fuel listed a w
 | 0,_,_,_,hw,h=>⟨h.1,hQ _ _ hw h.2⟩
 | fuel+1,_,_,_,hw,h=>⟨fun h0=>hQ _ _ hw (h.1 h0),fun i hi=>z1j hp hw (fun a' w' hw'=>M7 hp hQ fuel _ a' w' hw') (h.2 i hi)⟩
theorem Xm{id:Nat}{Q:Exit->Act->World->Prop}{a:Act}{w:World}{ol:List Oper}(hm:P.follows .mixedOrders=true)(hB:Region.lexB .any ol.toArray=true)(hp:Mn ol.toArray=true)
 (h:wpQuiet P ol.toArray (fun w'=>∃ n,w'=w.drewN n) (fun a'=>∀ w',(∃ n,w'=w.drewN n)->Q .normal a' w') ol a):(Code.region id ol.toArray true).wpIn (Fence.wide.inRound l) n P Q a w:=by
 simp only [Region.lexB,Bool.and_eq_true] at hB;refine wpIn_region_any hm (M7 (C:=fun w'=>∃ n,w'=w.drewN n) hp (Q:=fun a'=>∀ w',(∃ n,w'=w.drewN n)->Q .normal a' w') (fun _ w' hw' h=>h w' hw') _ _ _ _ ⟨1,rfl⟩ ?_)
 have:=wpAnyQ_lex (C:=fun w'=>∃ n,w'=w.drewN n) (md:=.any) hB.1 ol 0 (Array.replicate ol.toArray.size false) a (by simp) (by simpa using hB.2) h
 simpa using this
end
end Go.Proofs.YtcklcmafohlflaaGreatDoor.Dc
